import PyProof.Rows.All
import Wide.All
import OpenK.AllK
import Wide.FinOn
import Lean
import PyProof.EqAt
import PyProof.EqKinds
import PyProof.TupleCall
import PyProof.MaxThree
import PyProof.IsRules
import PySem.Challenge.RW_speakmill_k65_each_row
set_option Elab.async false
set_option linter.all false
set_option maxRecDepth 100000
set_option maxHeartbeats 8000000
set_option compiler.extract_closed false
set_option genSizeOf false
set_option genSizeOfSpec false
noncomputable section
open List (all_eq_true any_cons append_nil drop_zero eq_nil_of_length_eq_zero filterMap_cons find?_cons flatten_cons getElem?_append_left getElem?_append_right getElem?_map getElem?_of_mem getElem?_reverse getElem_mem length_append length_cons length_drop length_map length_nil length_replicate length_reverse length_singleton length_take lookup_cons map_append map_cons map_drop map_nil mem_append mem_append_left mem_append_right mem_cons mem_cons_of_mem mem_cons_self mem_filter mem_filterMap mem_map mem_of_getElem? mem_range mem_singleton nodup_cons not_mem_nil of_mem_zip replicate_succ reverse_cons size_toArray sum_append sum_cons take_length take_of_length_le take_succ)
open Nat (add_le_add_left add_sub_cancel le_add_right le_of_lt le_refl le_succ le_succ_of_le le_trans lt_irrefl lt_of_le_of_lt lt_of_lt_of_le lt_or_ge min_eq_left ne_of_lt not_succ_le_zero sub_zero succ_le_succ zero_le)
open PySem.Heap (get?_push_size lt_size size_push)
open Option (map_some ne_none_iff_exists')
open PySem.W (callWith_K codeIn emptyDict envX findIn fnOf instObj isFn kia_one kia_tup kitAny kitOne kitx_dict kitx_list kla_obj lookIn plainGet)
open PyProof.Rows (callWith_type1)
noncomputable abbrev bZ:=@PySem.wpAny_bind
noncomputable abbrev pZ:=@PySem.wpAny_pure
noncomputable abbrev gZ:=@PySem.Heap.get?_push_of_some
noncomputable abbrev nZ:=Bool.false_ne_true
noncomputable abbrev FZ:=PySem.W.Frag
noncomputable abbrev kZ:=@PySem.W.keepIn
noncomputable abbrev cZ{α:Type}{a b:α}{l:List α}:=(mem_cons (a:=a) (b:=b) (l:=l)).mp
noncomputable abbrev sZ{α:Type}{a b:α}:=(mem_singleton (a:=a) (b:=b)).mp
namespace L2
open PySem PySem.Spec PyProof.Rows
noncomputable abbrev Key:=Sum Int Str
noncomputable def ID:Key->Value->Bool
 | .inl k,v=>Value.isInt k v
 | .inr x,v=>Value.isStrOf x v
noncomputable def dDZ(w:World):Key->Int
 | .inl k=>hashInt k
 | .inr x=>hashStr w x
theorem L1:∀ {k:Key} {v:Value},ID k v=true->(∃i t,k=Sum.inl i/\v=Value.int i t)\/(∃x t,k=Sum.inr x/\v=Value.str x t)
 | .inl i,v,h=>by
  obtain⟨t,e⟩:=Value.isInt_shape (k:=i) (v:=v) h
  exact .inl ⟨i,t,rfl,e⟩
 | .inr x,v,h=>by
  obtain⟨t,e⟩:=Value.isStrOf_shape (x:=x) (v:=v) h
  exact .inr ⟨x,t,rfl,e⟩
theorem UT(i:Int)(t:Tok):ID (.inl i) (.int i t)=true:=by simp[ID,Value.isInt]
theorem UU(x:Str)(t:Tok):ID (.inr x) (.str x t)=true:=by simp[ID,Value.isStrOf]
theorem ccZ(a b:Int):decide ((Sum.inl a:Key)=Sum.inl b)=(a==b):=by
 by_cases e:a=b
 ·subst e;simp
 ·have h:¬(Sum.inl a:Key)=Sum.inl b:=λq=>e (Sum.inl.inj q)
  rw[decide_eq_false h]
  exact(beq_eq_false_iff_ne.mpr e).symm
theorem bTZ(a b:Str):decide ((Sum.inr a:Key)=Sum.inr b)=decide (a=b):=by
 by_cases e:a=b
 ·subst e;simp
 ·have h:¬(Sum.inr a:Key)=Sum.inr b:=λq=>e (Sum.inr.inj q)
  rw[decide_eq_false h,decide_eq_false e]
theorem bYZ(a:Int)(b:Str):decide ((Sum.inl a:Key)=Sum.inr b)=false:=decide_eq_false (λq=>nomatch q)
theorem b3Z(a:Str)(b:Int):decide ((Sum.inr a:Key)=Sum.inl b)=false:=decide_eq_false (λq=>nomatch q)
noncomputable def L7(prog:Program)(w:World):PySem.KeyKind prog w Key where
 is:=ID
 hash:=dDZ w
 inj:=λv a b ha hb=>by
  rcases L1 ha with⟨i,t,rfl,rfl⟩|⟨x,t,rfl,rfl⟩
  ·rcases L1 hb with⟨j,u,rfl,e⟩|⟨y,u,rfl,e⟩
   ·injection e with e1 _;rw[e1]
   ·exact nomatch e
  ·rcases L1 hb with⟨j,u,rfl,e⟩|⟨y,u,rfl,e⟩
   ·exact nomatch e
   ·injection e with e1 _;rw[e1]
 byValue:=λk v h=>by
  rcases L1 h with⟨i,t,rfl,rfl⟩|⟨x,t,rfl,rfl⟩<;>rfl
 pyHash:=λhv h=>by
  rcases L1 hv with⟨i,t,rfl,rfl⟩|⟨x,t,rfl,rfl⟩
  ·exact wpAny_pyHash_int h
  ·exact wpAny_pyHash_str h
 eqBool:=λhu hv h=>by
  rcases L1 hu with⟨i,t,rfl,rfl⟩|⟨x,t,rfl,rfl⟩
  ·rcases L1 hv with⟨j,u,rfl,rfl⟩|⟨y,u,rfl,rfl⟩
   ·rw[ccZ]at h;exact wpAny_eqBool_int h
   ·rw[bYZ]at h;exact SeqAt.EqAt.int_str i t y u _ _ _ _ h
  ·rcases L1 hv with⟨j,u,rfl,rfl⟩|⟨y,u,rfl,rfl⟩
   ·rw[b3Z]at h;exact SeqAt.EqAt.str_int x t j u _ _ _ _ h
   ·rw[bTZ]at h;exact wpAny_eqBool_str h
 «strs»:=λk x t v h=>by
  rcases L1 h with⟨i,u,rfl,e⟩|⟨y,u,rfl,e⟩
  ·exact nomatch e
  ·injection e with e1 _
   subst e1
   cases v<;>rfl
theorem MP(prog:Program)(w:World)(i:Int)(t:Tok):(L7 prog w).is (.inl i) (.int i t)=true:=UT i t
theorem MH(prog:Program)(w:World)(x:Str)(t:Tok):(L7 prog w).is (.inr x) (.str x t)=true:=UU x t
inductive V where
 |non|bl (b:Bool)|int (i:Int)|str (x:Str)|byt (b:Array UInt8)|flt (b:UInt64)|ref (a:Addr)|ty (n:String)
 deriving DecidableEq
noncomputable def RelV:V->Value->Prop
 | .non,u=>u=Value.none
 | .bl b,u=>u=Value.bool b
 | .int i,u=>∃t,u=Value.int i t
 | .str x,u=>∃t,u=Value.str x t
 | .byt b,u=>∃t,u=Value.bytes b t
 | .flt b,u=>∃t,u=Value.float b t
 | .ref a,u=>u=Value.ref a
 | .ty n,u=>u=Value.type n
noncomputable abbrev Vals:List V->List Value->Prop:=Paired RelV
theorem Vals.length{xs:List V}{us:List Value}(r:Vals xs us):xs.length=us.length:=Paired.length r
theorem Vals.get:∀ {xs:List V} {us:List Value} {i:Nat} {x:V},Vals xs us->xs[i]? =some x->∃u,us[i]? =some u/\RelV x u
 |_,_,_,_,.nil,e=>by simp at e
 |_,_,0,_,.cons r _,e=>by simp at e;subst e;exact⟨_,rfl,r⟩
 |_,_,i+1,x,.cons _ t,e=>by
  obtain⟨u,h1,h2⟩:=Vals.get (i:=i) (x:=x) t (by simpa using e)
  exact⟨u,by simpa using h1,h2⟩
theorem Vals.set{x:V}{u:Value}(r:RelV x u):∀ {xs:List V} {us:List Value} (i:Nat),Vals xs us->Vals (xs.set i x) (us.set i u)
 |_,_,_,.nil=> .nil
 |_,_,0,.cons _ t=> .cons r t
 |_,_,i+1,.cons q t=> .cons q (Vals.set r i t)
theorem Vals.append:∀ {xs ys:List V} {us ws:List Value},Vals xs us->Vals ys ws->Vals (xs++ys) (us++ws)
 |_,_,_,_,.nil,s=>s
 |_,_,_,_,.cons r t,s=> .cons r (Vals.append t s)
theorem Vals.take:∀ {xs:List V} {us:List Value} (n:Nat),Vals xs us->Vals (xs.take n) (us.take n)
 |_,_,0,_=> .nil
 |_,_,_+1,.nil=> .nil
 |_,_,n+1,.cons r t=> .cons r (Vals.take n t)
theorem Vals.drop:∀ {xs:List V} {us:List Value} (n:Nat),Vals xs us->Vals (xs.drop n) (us.drop n)
 |_,_,0,r=>r
 |_,_,_+1,.nil=> .nil
 |_,_,n+1,.cons _ t=>Vals.drop n t
noncomputable def RelO:Option V->Option Value->Prop
 |some v,some u=>RelV v u
 |none,none=>True
 |_,_=>False
noncomputable def KV{κ:Type}:List (κ×V)->List (κ×Value)->Prop:=Paired λ(p:κ×V) (q:κ×Value)=>p.1=q.1/\RelV p.2 q.2
noncomputable def kV:Key->V
 | .inl i=> .int i
 | .inr x=> .str x
inductive HO where
 |lst (xs:List V)
 |tup (xs:List V)
 |dK (kvs:List (Key×V))|dT (kvs:List (List Key×V))
 |set(S:Int->Bool) (n:Nat)
 |ins (C dx:Addr) (fs:List (Str×V))
 |own (x:Addr)
 |xd (fs:List (Str×V))
 |met (f x:Addr)
 |rng (lo hi:Int)
 |frz (o:Obj) (u:HO)
 |tbl (ps:Array Value)
 |ext (φ:Heap->Prop)
noncomputable abbrev Hp:=Addr->Option HO
noncomputable def upd(H:Hp)(a:Addr)(o:HO):Hp:=λb=>if b=a then some o else H b
theorem A2{H:Hp}{a:Addr}{o:HO}:upd H a o a=some o:=by unfold upd;rw[if_pos rfl]
theorem B0{H:Hp}{a b:Addr}{o:HO}(h:b≠a):upd H a o b=H b:=by unfold upd;rw[if_neg h]
theorem KA{H:Hp}{a:Addr}{o u:HO}:upd (upd H a o) a u=upd H a u:=by
 funext b;unfold upd;split<;>rfl
theorem bpZ{H:Hp}{a b:Addr}{o u:HO}(h:H a=some o)(h':H b=some u)(d:o≠u):a≠b:=by
 intro e;subst e;rw[h]at h';exact d (Option.some.inj h')
theorem C6{H:Hp}{a b:Addr}{o:HO}(h:H a=some o)(h':H b=none):a≠b:=by
 intro e;subst e;rw[h]at h';cases h'
section
variable(P:Program)(w:World)
noncomputable def ObjOk(H:Hp)(h:Heap)(a:Addr):HO->Prop
 | .lst xs=>xs.length<=sizeLine/\∃(its:List Value) (n:Nat),Vals xs its/\h.get? a=some {cls:=.type "list",data:=.seq its.toArray n}
 | .tup xs=>xs.length<=sizeLine/\∃its:List Value,Vals xs its/\IsTup h a its.toArray
 | .dK kvs=>kvs.length<=sizeLine/\(a==sysModules)=false/\∃vs,KV kvs vs/\h.DictOf (L7 P w) a vs
 | .dT kvs=>kvs.length<=sizeLine/\(a==sysModules)=false/\∃xs:List (List Key×Addr×Value),
   Paired (λ(p:List Key×V) (q:List Key×Addr×Value)=>p.1=q.1/\H q.2.1=some (.tup (p.1.map kV))/\RelV p.2 q.2.2) kvs xs/\
   ∃o es ep,h.get? a=some o/\o.ExactDict/\o.data=.dict es ep/\es.toList=xs.map (entryOfKey (tupleKind (L7 P w)))/\(xs.map (·.1)).Nodup
 | .set S n=>h.SetOf (intKind P w) a S n
 | .ins C dx fs=>H dx=some (.own a)/\fs.length<=1000/\dx≠a/\h.get? a=some (instObj C dx)/\
   ∃mA,h.Ns1 dx mA/\(∀f,RelO (fs.lookup f) (mA f))/\PySem.Within mA (fs.map (·.1))
 | .own _=>∃o,h.get? a=some o
 | .xd fs=>∃mA,h.Ns1 a mA/\∀f,RelO (fs.lookup f) (mA f)
 | .rng lo hi=>∃t u v,h.get? a=some {cls:=.type "range",data:=.fields #[.int lo t,.int hi u,.int 1 v]}
 | .frz o u=>h.get? a=some o/\ObjOk H h a u
 | .tbl ps=>h.get? a=some {cls:=.none,data:=.fields ps}
 | .met f x=>h.get? a=some (PySem.W.methodObj (.ref f) (.ref x))
 | .ext φ=>φ h/\(∃o,h.get? a=some o)/\∀h1 h2:Heap,φ h1->(∀o,h1.get? a=some o->h2.get? a=some o)->φ h2
noncomputable def HOk(H:Hp)(h:Heap):Prop:=∀a o,H a=some o->ObjOk P w H h a o
end
section
variable{P:Program}{w:World}{H H':Hp}{h h':Heap}{a:Addr}{o:HO}
theorem ObjOk.lt(x:ObjOk P w H h a o):a<h.objs.size:=by
 cases o with
 |lst xs=>obtain⟨_,_,_,_,e⟩:=x;exact lt_size e
 |tup xs=>obtain⟨_,_,_,p⟩:=x;exact p.lt
 |dK kvs=>obtain⟨_,_,_,_,o,_,_,e,_⟩:=x;exact lt_size e
 |dT kvs=>obtain⟨_,_,_,_,o,_,_,e,_⟩:=x;exact lt_size e
 |set S n=>obtain⟨o,_,_,_,e,_⟩:=x;exact lt_size e
 |ins C dx fs=>obtain⟨_,_,_,e,_⟩:=x;exact lt_size e
 |own y=>obtain⟨_,e⟩:=x;exact lt_size e
 |xd fs=>obtain⟨_,⟨_,_,_,e,_⟩,_⟩:=x;exact lt_size e
 |rng lo hi=>obtain⟨_,_,_,e⟩:=x;exact lt_size e
 |frz ob u=>obtain⟨e,_⟩:=x;exact lt_size e
 |tbl ps=>exact lt_size (show h.get? a=some _ from x)
 |met f y=>exact lt_size (show h.get? a=some _ from x)
 |ext φ=>obtain⟨_,⟨_,e⟩,_⟩:=x;exact lt_size e
theorem Paired.mapP{α β:Type}{F G:α->β->Prop}:∀ {l₁:List α} {l₂:List β},Paired F l₁ l₂->(∀a b,F a b->G a b)->Paired G l₁ l₂
 |_,_,.nil,_=> .nil
 |_,_,.cons r t,f=> .cons (f _ _ r) (Paired.mapP t f)
theorem ObjOk.stay(x:ObjOk P w H h a o)(k:∀b u,(b=a\/H b=some (.own a))->h.get? b=some u->h'.get? b=some u)
  (ho:∀b,H b=some (.own a)->H' b=some (.own a))(ht:∀b xs,H b=some (.tup xs)->H' b=some (.tup xs)):ObjOk P w H' h' a o:=by
 induction o with
 |lst xs=>obtain⟨z,its,n,r,e⟩:=x;exact⟨z,its,n,r,k _ _ (.inl rfl) e⟩
 |tup xs=>obtain⟨z,its,r,ob,e,c⟩:=x;exact⟨z,its,r,ob,k _ _ (.inl rfl) e,c⟩
 |dK kvs=>obtain⟨z,y,vs,r,ob,es,ep,e,c⟩:=x;exact⟨z,y,vs,r,ob,es,ep,k _ _ (.inl rfl) e,c⟩
 |dT kvs=>
  obtain⟨z,y,xs,r,ob,es,ep,e,c⟩:=x
  exact⟨z,y,xs,Paired.mapP r λp q z=>⟨z.1,ht _ _ z.2.1,z.2.2⟩,ob,es,ep,k _ _ (.inl rfl) e,c⟩
 |set S n=>obtain⟨ob,es,ep,t,e,c⟩:=x;exact⟨ob,es,ep,t,k _ _ (.inl rfl) e,c⟩
 |ins C dx fs=>
  obtain⟨d,z,ne,e,mA,⟨od,es,ep,e2,c⟩,r⟩:=x
  exact⟨ho _ d,z,ne,k _ _ (.inl rfl) e,mA,⟨od,es,ep,k _ _ (.inr d) e2,c⟩,r⟩
 |own y=>obtain⟨ob,e⟩:=x;exact⟨ob,k _ _ (.inl rfl) e⟩
 |xd fs=>obtain⟨mA,⟨od,es,ep,e,c⟩,r⟩:=x;exact⟨mA,⟨od,es,ep,k _ _ (.inl rfl) e,c⟩,r⟩
 |rng lo hi=>obtain⟨t,u,v,e⟩:=x;exact⟨t,u,v,k _ _ (.inl rfl) e⟩
 |frz ob u ih=>obtain⟨e,q⟩:=x;exact⟨k _ _ (.inl rfl) e,ih q⟩
 |tbl ps=>
  have e:h.get? a=some {cls:=.none,data:=.fields ps}:=x
  show h'.get? a=some {cls:=.none,data:=.fields ps}
  exact k a _ (.inl rfl) e
 |met f y=>
  have e:h.get? a=some (PySem.W.methodObj (.ref f) (.ref y)):=x
  show h'.get? a=some (PySem.W.methodObj (.ref f) (.ref y))
  exact k a _ (.inl rfl) e
 |ext φ=>obtain⟨p,⟨o,e⟩,st⟩:=x;exact⟨st _ _ p λo q=>k _ _ (.inl rfl) q,⟨o,k _ _ (.inl rfl) e⟩,st⟩
theorem HOk.lt(x:HOk P w H h)(e:H a=some o):a<h.objs.size:=(x a o e).lt
theorem HOk.fresh(x:HOk P w H h)(e:h.objs.size<=a):H a=none:=by
 cases q:H a with
 |none=>rfl
 |some u=>exact absurd (lt_of_lt_of_le (x.lt q) e) (lt_irrefl _)
theorem HOk.kept(x:HOk P w H h)(k:∀b u,h.get? b=some u->h'.get? b=some u):HOk P w H h':=λa o e=>
 (x a o e).stay (λb u _ q=>k b u q) (λ_ q=>q) λ_ _ q=>q
theorem HOk.laid(x:HOk P w H h)(k:∀b u,h.get? b=some u->h'.get? b=some u)(hp:h.objs.size<=a)(new:ObjOk P w (upd H a o) h' a o):HOk P w (upd H a o) h':=λb u e=>by
 have hn:=x.fresh hp
 by_cases hb:b=a
 ·subst hb;rw[A2]at e;cases e;exact new
 ·rw[B0 hb]at e
  exact(x b u e).stay (λc v _ q=>k c v q) (λc q=>by rw[B0 (C6 q hn)];exact q) λc xs q=>by rw[B0 (C6 q hn)];exact q
end
noncomputable def Rd(H:Hp)(a:Addr)(u:HO):Prop:=H a=some u\/∃o,H a=some (.frz o u)
theorem Rd.ok{P:Program}{w:World}{H:Hp}{h:Heap}{a:Addr}{u:HO}(r:Rd H a u)(x:HOk P w H h):ObjOk P w H h a u:=by
 rcases r with r|⟨o,r⟩
 ·exact x a u r
 ·obtain⟨_,q⟩:=x a _ r
  exact q
noncomputable def Mut:Option HO->Prop
 |some (.lst _)=>True
 |some (.dK _)=>True
 |some (.dT _)=>True
 |some (.set _ _)=>True
 |some (.ins _ _ _)=>True
 |some (.ext _)=>True
 |_=>False
section
variable{P:Program}{w:World}{H:Hp}{h h':Heap}{x e:Addr}{o':HO}
theorem HOk.write(ok:HOk P w H h)(mu:Mut (H x))(he:e=x\/H e=some (.own x))(k:∀b u,b≠e->h.get? b=some u->h'.get? b=some u)(heo:∃u,h'.get? e=some u)
  (new:ObjOk P w (upd H x o') h' x o'):HOk P w (upd H x o') h':=λb u q=>by
 have nown:∀c y,H c=some (.own y)->c≠x:=λc y r z=>by subst z;rw[r]at mu;exact mu
 have ntup:∀c xs,H c=some (.tup xs)->c≠x:=λc xs r z=>by subst z;rw[r]at mu;exact mu
 by_cases hb:b=x
 ·subst hb;rw[A2]at q;cases q;exact new
 ·rw[B0 hb]at q
  by_cases hbe:b=e
  ·have q':H b=some (.own x):=by
    rcases he with z|z
    ·exact absurd (hbe.trans z) hb
    ·rw[hbe];exact z
   rw[q]at q';cases q'
   obtain⟨v,hv⟩:=heo
   exact⟨v,by rw[hbe];exact hv⟩
  ·refine(ok b u q).stay (λc v hc r=>k c v ?_ r) (λc r=>by rw[B0 (nown c b r)];exact r) λc xs r=>by rw[B0 (ntup c xs r)];exact r
   rcases hc with rfl|hc
   ·exact hbe
   ·rintro rfl
    rcases he with z|z
    ·exact nown c b hc z
    ·rw[hc]at z;cases z;exact hb rfl
end
structure Un (fs ex:List Addr) (H H':Hp) (h h':Heap):Prop where
 keep:∀b o,h.get? b=some o->H b=none->b∉fs->b∉ex->h'.get? b=some o
 slot:∀b o,h.get? b=some o->H b=none->b∈fs->b∉ex->∃sl,h'.get? b=some {o with slots:=sl}
 free:∀b o,h.get? b=some o->H b=none->b∉ex->H' b=none
 there:∀b o,h.get? b=some o->b∉ex->∃o',h'.get? b=some o'
 tups:∀b xs,H b=some (.tup xs)->H' b=some (.tup xs)
 frzs:∀b o u,H b=some (.frz o u)->H' b=some (.frz o u)
 tbls:∀b ps,H b=some (.tbl ps)->∃more,H' b=some (.tbl (ps++more))
section
variable{fs fs' ex ex':List Addr}{H H1 H2:Hp}{h h1 h2 h':Heap}{a x e:Addr}{o:HO}
theorem Un.any(u:Un fs ex H H1 h h1){b:Addr}{ob:Obj}(q:h.get? b=some ob)(n:H b=none)(hx:b∉ex):∃sl,h1.get? b=some {ob with slots:=sl}:=by
 by_cases hb:b∈fs
 ·exact u.slot b ob q n hb hx
 ·exact⟨ob.slots,u.keep b ob q n hb hx⟩
theorem Un.kept(k:∀b u,h.get? b=some u->h'.get? b=some u):Un fs ex H H h h':=
 ⟨λb ob q _ _ _=>k b ob q,λb ob q _ _ _=>⟨ob.slots,k b ob q⟩,λ_ _ _ n _=>n,λb ob q _=>⟨ob,k b ob q⟩,λ_ _ q=>q,λ_ _ _ q=>q,λ_ ps q=>⟨#[],by rw[q];simp⟩⟩
theorem Un.refl:Un fs ex H H h h:=Un.kept λ_ _ q=>q
theorem Un.laid(k:∀b u,h.get? b=some u->h'.get? b=some u)(hp:h.objs.size<=a)(hn:H a=none):Un fs ex H (upd H a o) h h' where
 keep:=λb u q _ _ _=>k b u q
 slot:=λb u q _ _ _=>⟨u.slots,k b u q⟩
 free:=λb u q n _=>by rw[B0 (ne_of_lt (lt_of_lt_of_le (lt_size q) hp))];exact n
 there:=λb u q _=>⟨u,k b u q⟩
 tups:=λb xs q=>by rw[B0 (C6 q hn)];exact q
 frzs:=λb u xs q=>by rw[B0 (C6 q hn)];exact q
 tbls:=λb ps q=>⟨#[],by rw[B0 (C6 q hn),q];simp⟩
theorem Un.write(mu:Mut (H x))(he:e=x\/H e=some (.own x))(k:∀b u,b≠e->h.get? b=some u->h'.get? b=some u)(heo:∃u,h'.get? e=some u):Un fs ex H (upd H x o) h h':=by
 have hx:∀b,H b=none->b≠x:=λb n z=>by subst z;rw[n]at mu;exact mu
 have hb:∀b,H b=none->b≠e:=λb n z=>by
  subst z
  rcases he with r|r
  ·exact hx b n r
  ·rw[n]at r;cases r
 have hm:∀b u,H b=some u->¬Mut (some u)->b≠x:=λb u q nm z=>by subst z;rw[q]at mu;exact nm mu
 refine⟨λb u q n _ _=>k b u (hb b n) q,λb u q n _ _=>⟨u.slots,k b u (hb b n) q⟩,λb u q n _=>by rw[B0 (hx b n)];exact n,λb u q _=> ?_,
  λb xs q=>by rw[B0 (hm b _ q λz=>z)];exact q,λb u xs q=>by rw[B0 (hm b _ q λz=>z)];exact q,λb ps q=>⟨#[],by rw[B0 (hm b _ q λz=>z),q];simp⟩⟩
 by_cases hbe:b=e
 ·subst hbe;exact heo
 ·exact⟨u,k b u hbe q⟩
end
noncomputable def trk(h:Heap)(H:Hp):List Addr:=(List.range h.objs.size).filter λa=>(H a).isSome
noncomputable def HA(h:Heap)(H:Hp):Heap:=PySem.W.hideAll h (trk h H)
theorem UR(h:Heap)(H:Hp):(HA h H).objs.size=h.objs.size:=PySem.W.hideAll_size _ _
theorem YO{h:Heap}{H:Hp}{b:Addr}{o:Obj}(e:h.get? b=some o)(n:H b=none):(HA h H).get? b=some o:=
 PySem.W.hideAll_get _ e λhm=>by
  have q:(H b).isSome=true:=(mem_filter.mp hm).2
  rw[n]at q;simp at q
theorem ZR{h:Heap}{H:Hp}{b:Addr}{o:Obj}(e:(HA h H).get? b=some o):h.get? b=some o/\H b=none:=by
 have e':h.get? b=some o:=PySem.W.of_hideAll (trk h H) e
 refine⟨e', ?_⟩
 cases q:H b with
 |none=>rfl
 |some x=>
  have hm:b∈trk h H:=mem_filter.mpr ⟨mem_range.mpr (lt_size e'),by simp[q]⟩
  have z:(HA h H).get? b=none:=PySem.W.hideAll_none (trk h H) hm
  rw[z]at e;cases e
structure Mod (K:FZ) (mg:Str->Option Value) (base:Heap):Prop where
 kin:K.In base
 glob:base.Ns mainGlobals mg
 blt:∃mb,base.Ns builtinsNs mb/\∀x:Str,x≠ "__name__"->mb x=bootBuiltins x
 nolimit:base.NoLimit
structure Cx where
 prog:Program
 w:World
 K:FZ
 mg:Str->Option Value
 base:Heap
 A:Around
 N:List Str
 s₀:Shared
 H₀:Hp
 env:Env
 outer:List Env
 stack:List Env
 ex:List Addr
 fn:Str->Bool
 calm:Bool
 pn:List (Addr×Obj)
 xe:Value->Shared->Prop
noncomputable def frs(l:List Env):List Addr:=l.filterMap (·.frame)
noncomputable abbrev Cx.fs(X:Cx):List Addr:=frs X.outer
noncomputable def Vis(sc:Scope)(x:Str):Prop:=sc.names.lookup x=some .local\/sc.names.lookup x=some .cell\/sc.names.lookup x=some .free
noncomputable def Loc(sc:Scope)(x:Str):Prop:=sc.names.lookup x=some .local\/sc.names.lookup x=some .cell
noncomputable def dLZ(env:Env)(h:Heap)(m:Str->Option Value)(x:Str)(u:Value):Prop:=
 (env.kindOf x=some .local/\m x=some u)\/((env.kindOf x=some .cell\/env.kindOf x=some .free)/\∃c,env.cells.lookup x=some c/\h.IsCell c (some u))
structure Cx.Ok (X:Cx):Prop where
 mod:Mod X.K X.mg X.base
 kind:X.env.scope.kind=.function
 glob:X.env.globals=mainGlobals
 blt:X.env.builtins=builtinsNs
 above:X.s₀.heap.objs.size<=X.env.locals
 inj:∀x y c,X.env.cells.lookup x=some c->X.env.cells.lookup y=some c->x=y
 has:∀x,(X.env.kindOf x=some .cell\/X.env.kindOf x=some .free)->∃c,X.env.cells.lookup x=some c
 cab:∀x c,X.fn x=true->X.env.cells.lookup x=some c->X.s₀.heap.objs.size<=c
 hd:X.calm=true->X.A.handled=none
 frames:X.A.frames=some X.stack
 stk:X.stack=X.outer\/(X.stack=X.env::X.outer/\X.env.frame=some X.env.locals)
 exf:∀b∈X.ex,b≠X.env.locals/\∀x c,X.env.cells.lookup x=some c->c≠b
 bs:∀b o,X.base.get? b=some o->X.s₀.heap.get? b=some o/\X.H₀ b=none
 bsz:X.base.objs.size<=X.s₀.heap.objs.size
 noex:∀b o,X.base.get? b=some o->b∉X.ex
 exfs:∀b∈X.ex,b∉X.fs
 funs:X.s₀.heap.FunFrames X.base X.outer
 frf:∀b∈X.fs,X.H₀ b=none
structure Inv (X:Cx) (pins:List (Addr×Obj)) (σ:List (Option V)) (H:Hp) (s:Shared):Prop where
 ok:X.Ok
 os:s.os=X.s₀.os
 bare:AllBare s.gens
 base:Un X.fs X.ex X.H₀ H X.s₀.heap s.heap
 loc:∃m,s.heap.Ns X.env.locals m/\∀(i:Nat) (x:Str) (v:V),X.N[i]? =some x->σ[i]? =some (some v)->Vis X.env.scope x->∃u,RelV v u/\dLZ X.env s.heap m x u
 cell:∀x c,X.env.cells.lookup x=some c->∃v,s.heap.IsCell c v
 free:H X.env.locals=none
 freeC:∀x c,X.env.cells.lookup x=some c->H c=none
 pin:∀p∈X.pn++pins,s.heap.get? p.1=some p.2/\H p.1=none/\p.1≠X.env.locals/\p.1∉X.fs/\∀v,p.2.data≠ .cell v
 hok:HOk X.prog X.w H s.heap
 len:σ.length=X.N.length
section
variable{X:Cx}{pins:List (Addr×Obj)}{σ:List (Option V)}{H H':Hp}{s:Shared}{h':Heap}
theorem Cx.Ok.nofr(ok:X.Ok){b:Addr}{o:Obj}(e:X.base.get? b=some o):b∉X.fs:=λhb=>by
 have:=(ok.funs.mem hb).1
 rw[e]at this;cases this
theorem Inv.bs(I:Inv X pins σ H s):∀b o,X.base.get? b=some o->s.heap.get? b=some o/\H b=none:=λb o e=>
 ⟨I.base.keep b o (I.ok.bs b o e).1 (I.ok.bs b o e).2 (I.ok.nofr e) (I.ok.noex b o e),I.base.free b o (I.ok.bs b o e).1 (I.ok.bs b o e).2 (I.ok.noex b o e)⟩
theorem Inv.bk(I:Inv X pins σ H s):∀b o,X.base.get? b=some o->s.heap.get? b=some o:=λb o e=>(I.bs b o e).1
theorem Inv.mod(I:Inv X pins σ H s):Mod X.K X.mg X.base:=I.ok.mod
theorem Inv.kIn(I:Inv X pins σ H s):X.K.In s.heap:=I.ok.mod.kin.keeps I.bk
theorem Inv.lt(I:Inv X pins σ H s):X.env.locals<s.heap.objs.size:=let⟨_,hn,_⟩:=I.loc;hn.lt
theorem Inv.sz(I:Inv X pins σ H s):X.s₀.heap.objs.size<=s.heap.objs.size:=le_trans I.ok.above (le_of_lt I.lt)
theorem Inv.nofs(I:Inv X pins σ H s){a:Addr}(h:s.heap.objs.size<=a):a∉X.fs:=λhb=>by
 obtain⟨_,o,ho,_⟩:=I.ok.funs.mem hb
 exact absurd (lt_of_lt_of_le (lt_size ho) (le_trans I.sz h)) (lt_irrefl _)
theorem Inv.cne(I:Inv X pins σ H s):∀x c,X.env.cells.lookup x=some c->c≠X.env.locals:=λx c e z=>by
 obtain⟨v,o,ho,hd⟩:=I.cell x c e
 obtain⟨m,⟨o',es,ep,ho',hd',_⟩,_⟩:=I.loc
 rw[z,ho']at ho;cases ho;rw[hd']at hd;cases hd
theorem Inv.funs(I:Inv X pins σ H s):s.heap.FunFrames X.base X.outer:=by
 have all:∀(l:List Env),(∀b∈frs l,b∈X.fs)->X.s₀.heap.FunFrames X.base l->s.heap.FunFrames X.base l:=by
  intro l
  induction l with
  |nil=>intro _ _;trivial
  |cons env r ih=>
   intro hs hl
   obtain⟨hk,⟨L,o,hf,hn,ho,hd⟩,hr⟩:=hl
   have hL:L∈X.fs:=hs L (by unfold frs;rw[filterMap_cons,hf];exact mem_cons_self)
   obtain⟨sl,e⟩:=I.base.slot L o ho (I.ok.frf L hL) hL λz=>I.ok.exfs L z hL
   exact⟨hk,⟨L,_,hf,hn,e,hd⟩,ih (λb hb=>hs b (by unfold frs;rw[filterMap_cons,hf];exact mem_cons_of_mem _ hb)) hr⟩
 exact all X.outer (λ_ hb=>hb) I.ok.funs
theorem Inv.stack(I:Inv X pins σ H s):s.heap.FunFrames X.base X.stack:=by
 rcases I.ok.stk with e|⟨e,hf⟩
 ·rw[e];exact I.funs
 ·rw[e]
  obtain⟨m,hn,_⟩:=I.loc
  refine .cons (by rw[I.ok.kind];decide) hf hn ?_ I.funs
  exact Heap.get?_none_of_le (le_trans I.ok.bsz I.ok.above)
theorem Inv.stkSub(I:Inv X pins σ H s):∀b∈frs X.stack,b∈X.env.locals::X.fs:=λb hb=>by
 rcases I.ok.stk with e|⟨e,hf⟩
 ·rw[e]at hb;exact mem_cons_of_mem _ hb
 ·rw[e]at hb
  unfold frs at hb
  rw[filterMap_cons,hf]at hb
  exact hb
theorem Inv.stkFree(I:Inv X pins σ H s):∀b∈frs X.stack,H b=none:=λb hb=>by
 rcases cZ (I.stkSub b hb)with e|hb
 ·rw[e];exact I.free
 ·obtain⟨_,o,ho,_⟩:=I.ok.funs.mem hb
  exact I.base.free b o ho (I.ok.frf b hb) λz=>I.ok.exfs b z hb
theorem Inv.step{g':Array GenState}{t':Nat}{d':Drawn}{ch:List Addr}(I:Inv X pins σ H s)
  (hch:∀b∈ch,(b∈X.ex\/X.s₀.heap.objs.size<=b)/\b≠X.env.locals/\(∀x c,X.env.cells.lookup x=some c->c≠b)/\∀p∈X.pn++pins,p.1≠b)
  (keep:∀b o,b≠X.env.locals->b∉X.fs->b∉ch->s.heap.get? b=some o->H b=none->h'.get? b=some o)
  (slot:∀b o,b≠X.env.locals->b∈X.fs->b∉ch->s.heap.get? b=some o->H b=none->∃sl,h'.get? b=some {o with slots:=sl})(free:∀b o,b∉ch->s.heap.get? b=some o->H b=none->H' b=none)
  (there:∀b o,b∉ch->s.heap.get? b=some o->∃o',h'.get? b=some o')
  (tups:∀b xs,H b=some (.tup xs)->H' b=some (.tup xs))(frzs:∀b o u,H b=some (.frz o u)->H' b=some (.frz o u))(tbls:∀b ps,H b=some (.tbl ps)->∃more,H' b=some (.tbl (ps++more)))
  (ns:∀m,s.heap.Ns X.env.locals m->h'.Ns X.env.locals m)(hok:HOk X.prog X.w H' h')(hg:AllBare g'):
  Inv X pins σ H' {s with heap:=h',gens:=g',drawn:=d',toks:=t'}:=by
 have neL:∀b o,X.s₀.heap.get? b=some o->b≠X.env.locals:=λb o e=>ne_of_lt (lt_of_lt_of_le (lt_size e) I.ok.above)
 have neC:∀b o,X.s₀.heap.get? b=some o->b∉X.ex->b∉ch:=λb o e hx hb=>by
  rcases(hch b hb).1 with z|z
  ·exact hx z
  ·exact absurd (lt_of_lt_of_le (lt_size e) z) (lt_irrefl _)
 have cellK:∀x c,X.env.cells.lookup x=some c->∀v,s.heap.IsCell c v->h'.IsCell c v:=λx c e v ⟨o,ho,hd⟩=>by
  have nch:c∉ch:=λz=>(hch c z).2.2.1 x c e rfl
  by_cases hc:c∈X.fs
  ·obtain⟨sl,q⟩:=slot c o (I.cne x c e) hc nch ho (I.freeC x c e)
   exact⟨_,q,hd⟩
  ·exact⟨o,keep c o (I.cne x c e) hc nch ho (I.freeC x c e),hd⟩
 refine⟨I.ok,I.os,hg,⟨λb o e n hb hx=> ?_,λb o e n hb hx=> ?_,λb o e n hx=> ?_,λb o e hx=> ?_,λb xs e=>tups b xs (I.base.tups b xs e),λb o xs e=>frzs b o xs (I.base.frzs b o xs e),λb ps e=> ?_⟩, ?_,λx c e=> ?_, ?_,λx c e=> ?_,λp hp=> ?_,hok,I.len⟩
 ·exact keep b o (neL b o e) hb (neC b o e hx) (I.base.keep b o e n hb hx) (I.base.free b o e n hx)
 ·obtain⟨sl,e1⟩:=I.base.slot b o e n hb hx
  obtain⟨sl',e2⟩:=slot b _ (neL b o e) hb (neC b o e hx) e1 (I.base.free b o e n hx)
  exact⟨sl',e2⟩
 ·obtain⟨o',e1⟩:=I.base.there b o e hx
  exact free b o' (neC b o e hx) e1 (I.base.free b o e n hx)
 ·obtain⟨o',e1⟩:=I.base.there b o e hx
  exact there b o' (neC b o e hx) e1
 ·obtain⟨m1,e1⟩:=I.base.tbls b ps e
  obtain⟨m2,e2⟩:=tbls b _ e1
  exact⟨m1++m2,by rw[e2,Array.append_assoc]⟩
 ·obtain⟨m,hn,hl⟩:=I.loc
  refine⟨m,ns m hn,λi x v e1 e2 e3=> ?_⟩
  obtain⟨u,r,l⟩:=hl i x v e1 e2 e3
  refine⟨u,r, ?_⟩
  rcases l with l|⟨k,c,e,z⟩
  ·exact .inl l
  ·exact .inr ⟨k,c,e,cellK x c e _ z⟩
 ·obtain⟨v,z⟩:=I.cell x c e
  exact⟨v,cellK x c e v z⟩
 ·obtain⟨m,⟨o,_,_,ho,_⟩,_⟩:=I.loc
  exact free _ o (λz=>(hch _ z).2.1 rfl) ho I.free
 ·obtain⟨v,o,ho,hd⟩:=I.cell x c e
  exact free c o (λz=>(hch c z).2.2.1 x c e rfl) ho (I.freeC x c e)
 ·obtain⟨e,n,ne,nf,d⟩:=I.pin p hp
  have nch:p.1∉ch:=λz=>(hch p.1 z).2.2.2 p hp rfl
  exact⟨keep p.1 p.2 ne nf nch e n,free p.1 p.2 nch e n,ne,nf,d⟩
theorem Inv.un{t':Nat}(I:Inv X pins σ H s)(u:Un X.fs [] H H' s.heap h')(hok:HOk X.prog X.w H' h'):Inv X pins σ H' {s with heap:=h',toks:=t'}:=by
 obtain⟨m,⟨o,es,ep,ho,r⟩,_⟩:=id I.loc
 obtain⟨sl,hL⟩:=u.any ho I.free (by simp)
 exact I.step (g':=s.gens) (d':=s.drawn) (ch:=[]) (λ_ z=>nomatch z) (λb o _ hb _ e n=>u.keep b o e n hb (by simp)) (λb o _ hb _ e n=>u.slot b o e n hb (by simp)) (λb o _ e n=>u.free b o e n (by simp)) (λb o _ e=>u.there b o e (by simp)) u.tups u.frzs u.tbls (λm' hm=>by
  obtain⟨o',es',ep',ho',r'⟩:=hm
  rw[ho]at ho';cases ho'
  exact⟨_,es',ep',hL,r'⟩) hok I.bare
theorem Inv.call{g':Array GenState}{t':Nat}{d':Drawn}{ch:List Addr}(I:Inv X pins σ H s)(u:Un (frs X.stack) ch H H' s.heap h')(hok:HOk X.prog X.w H' h')(hg:AllBare g')
  (hch:∀b∈ch,(b∈X.ex\/X.s₀.heap.objs.size<=b)/\b≠X.env.locals/\(∀x c,X.env.cells.lookup x=some c->c≠b)/\∀p∈X.pn++pins,p.1≠b):
  Inv X pins σ H' {s with heap:=h',gens:=g',drawn:=d',toks:=t'}:=by
 obtain⟨m,⟨o,es,ep,ho,r⟩,_⟩:=id I.loc
 obtain⟨sl,hL⟩:=u.any ho I.free λz=>(hch _ z).2.1 rfl
 exact I.step (ch:=ch) hch (λb o hL hb hc e n=>u.keep b o e n (λz=>(cZ (I.stkSub b z)).elim hL hb) hc) (λb o _ _ hc e n=>u.any e n hc) (λb o hc e n=>u.free b o e n hc) (λb o hc e=>u.there b o e hc) u.tups u.frzs u.tbls (λm' hm=>by
  obtain⟨o',es',ep',ho',r'⟩:=hm
  rw[ho]at ho';cases ho'
  exact⟨_,es',ep',hL,r'⟩) hok hg
theorem Inv.turned{t':Nat}{it:Addr}(I:Inv X pins σ H s)(k:∀b o,b≠it->s.heap.get? b=some o->h'.get? b=some o)(hn:H it=none)(hL:it≠X.env.locals)
  (h1:it∈X.ex\/X.s₀.heap.objs.size<=it)(h2:∀x c,X.env.cells.lookup x=some c->c≠it)(h3:∀p∈X.pn++pins,p.1≠it):Inv X pins σ H {s with heap:=h',toks:=t'}:=by
 have nit:∀b u,H b=some u->b≠it:=λb u e z=>by rw[z,hn]at e;cases e
 refine I.step (g':=s.gens) (d':=s.drawn) (ch:=[it]) (λb hb=> ?_) (λb o _ _ hc e _=>k b o (λz=>hc (by simp[z])) e) (λb o _ _ hc e _=>⟨o.slots,k b o (λz=>hc (by simp[z])) e⟩) (λ_ _ _ _ n=>n)
  (λb o hc e=>⟨o,k b o (λz=>hc (by simp[z])) e⟩) (λ_ _ e=>e) (λ_ _ _ e=>e) (λb ps e=>⟨#[],by rw[e];simp⟩) (λm hm=> ?_) (λb u e=> ?_) I.bare
 ·have e:b=it:=by simpa using hb
  subst e
  exact⟨h1,hL,h2,h3⟩
 ·obtain⟨o,es,ep,ho,r⟩:=hm
  exact⟨o,es,ep,k _ o (Ne.symm hL) ho,r⟩
 ·refine(I.hok b u e).stay (λc v hc q=>k c v ?_ q) (λ_ q=>q) λ_ _ q=>q
  rcases hc with z|z
  ·rw[z];exact nit b u e
  ·exact nit c _ z
theorem Inv.tok(I:Inv X pins σ H s)(t:Nat):Inv X pins σ H {s with toks:=t}:=I.un (h':=s.heap) (t':=t) Un.refl I.hok
theorem Inv.kept{t':Nat}(I:Inv X pins σ H s)(k:∀b u,s.heap.get? b=some u->h'.get? b=some u):Inv X pins σ H {s with heap:=h',toks:=t'}:=I.un (Un.kept k) (I.hok.kept k)
theorem Inv.laid{a:Addr}{o:HO}{t':Nat}(I:Inv X pins σ H s)(k:∀b u,s.heap.get? b=some u->h'.get? b=some u)(hp:s.heap.objs.size<=a)(new:ObjOk X.prog X.w (upd H a o) h' a o):
  Inv X pins σ (upd H a o) {s with heap:=h',toks:=t'}:=I.un (Un.laid k hp (I.hok.fresh hp)) (I.hok.laid k hp new)
theorem Inv.write{x e:Addr}{o:HO}{t':Nat}(I:Inv X pins σ H s)(mu:Mut (H x))(he:e=x\/H e=some (.own x))(k:∀b u,b≠e->s.heap.get? b=some u->h'.get? b=some u)(heo:∃u,h'.get? e=some u)
  (new:ObjOk X.prog X.w (upd H x o) h' x o):Inv X pins σ (upd H x o) {s with heap:=h',toks:=t'}:=I.un (Un.write mu he k heo) (I.hok.write mu he k heo new)
theorem Inv.weak{σ':List (Option V)}(I:Inv X pins σ H s)(hl:σ'.length=σ.length)(w:∀(i:Nat) v,σ'[i]? =some (some v)->σ[i]? =some (some v)):Inv X pins σ' H s:=
 ⟨I.ok,I.os,I.bare,I.base,let⟨m,hn,hl'⟩:=I.loc;⟨m,hn,λi x v e1 e2 e3=>hl' i x v e1 (w i v e2) e3⟩,I.cell,I.free,I.freeC,I.pin,I.hok,hl.trans I.len⟩
theorem Inv.pins_of{pins':List (Addr×Obj)}(I:Inv X pins σ H s)(h:∀p∈pins',s.heap.get? p.1=some p.2/\H p.1=none/\p.1≠X.env.locals/\p.1∉X.fs/\∀v,p.2.data≠ .cell v):Inv X pins' σ H s:=
 ⟨I.ok,I.os,I.bare,I.base,I.loc,I.cell,I.free,I.freeC,λp hp=>(mem_append.mp hp).elim (λz=>I.pin p (mem_append_left _ z)) (h p),I.hok,I.len⟩
theorem MG{N:List Str}(hN:N.Nodup){i j:Nat}{x:Str}(a:N[i]? =some x)(b:N[j]? =some x):i=j:=by
 obtain⟨h1,e1⟩:=List.getElem?_eq_some_iff.mp a
 obtain⟨h2,e2⟩:=List.getElem?_eq_some_iff.mp b
 exact(List.getElem_inj hN).mp (e1.trans e2.symm)
theorem HU{M:Model}{A:Around}{E:Value->Shared->Prop}{i:Nat}{x:Str}{v:V}{u:Value}{Q:Unit->Shared->Prop}(I:Inv X pins σ H s)(hN:X.N.Nodup)(hi:X.N[i]? =some x)(hx:Loc X.env.scope x)(r:RelV v u)
  (h:∀s',Inv X pins (σ.set i (some v)) H s'->(∃a,Heap.SameBut a s.heap s'.heap/\(a=X.env.locals\/X.env.cells.lookup x=some a))->Q () s')(hf:X.fn x=true\/X.env.scope.names.lookup x=some .local:=by first|exact .inl rfl|exact .inr rfl|assumption):wpAny M A (storeName X.env x u) Q E s:=by
 obtain⟨m,hn,hl⟩:=id I.loc
 have hcls:(X.env.scope.kind==.class||(X.env.scope.kind==.module&&X.env.locals !=X.env.globals))=false:=by rw[I.ok.kind];rfl
 have hiσ:i<σ.length:=by rw[I.len];exact(List.getElem?_eq_some_iff.mp hi).1
 have cne:=I.cne
 have tracked:∀ {a:Addr} {h':Heap},(∃o,s.heap.get? a=some o/\H a=none)->Heap.SameBut a s.heap h'->HOk X.prog X.w H h':=λ{a h'} ha hs b ob e=>by
  obtain⟨_,_,hfree⟩:=ha
  refine(I.hok b ob e).stay (λc w' hc q=>(hs.2 c ?_).trans q) (λ_ q=>q) λ_ _ q=>q
  rintro rfl
  rcases hc with rfl|hc
  ·rw[hfree]at e;cases e
  ·rw[hfree]at hc;cases hc
 rcases hx with hk|hk
 ·refine wpAny_storeName_local hk hn (λh' hn' hs=> ?_) hcls
  obtain⟨oL,_,_,hoL,_⟩:=id hn
  refine h _ ⟨I.ok,I.os,I.bare,⟨λb o e n hb hx=> ?_,λb o e n hb hx=> ?_,I.base.free,λb o e hx=> ?_,I.base.tups,I.base.frzs,I.base.tbls⟩,⟨_,hn',λj y v' e1 e2 e3=> ?_⟩,λy c e=> ?_,I.free,I.freeC,λp hp=> ?_,tracked ⟨oL,hoL,I.free⟩ hs,by simpa using I.len⟩ ⟨_,hs,.inl rfl⟩
  ·exact(hs.2 b (ne_of_lt (lt_of_lt_of_le (lt_size e) I.ok.above))).trans (I.base.keep b o e n hb hx)
  ·obtain⟨sl,e1⟩:=I.base.slot b o e n hb hx
   exact⟨sl,(hs.2 b (ne_of_lt (lt_of_lt_of_le (lt_size e) I.ok.above))).trans e1⟩
  ·obtain⟨o',e1⟩:=I.base.there b o e hx
   exact⟨o',(hs.2 b (ne_of_lt (lt_of_lt_of_le (lt_size e) I.ok.above))).trans e1⟩
  ·by_cases hj:j=i
   ·subst hj
    rw[hi]at e1;cases e1
    rw[List.getElem?_set_self hiσ]at e2
    cases e2
    exact⟨u,r,.inl ⟨hk,by simp⟩⟩
   ·rw[List.getElem?_set_ne (Ne.symm hj)]at e2
    obtain⟨u',r',q⟩:=hl j y v' e1 e2 e3
    refine⟨u',r', ?_⟩
    rcases q with⟨k,e⟩|⟨k,c,e,z⟩
    ·refine .inl ⟨k, ?_⟩
     have:y≠x:=λe=>hj (MG hN e1 (e▸hi))
     simp[this,e]
    ·exact .inr ⟨k,c,e,z.sameBut hs (cne y c e)⟩
  ·obtain⟨w',z⟩:=I.cell y c e
   exact⟨w',z.sameBut hs (cne y c e)⟩
  ·obtain⟨e,n,ne,nf,d⟩:=I.pin p hp
   exact⟨(hs.2 p.1 ne).trans e,n,ne,nf,d⟩
 ·have hfn:X.fn x=true:=by
   rcases hf with z|z
   ·exact z
   ·rw[z]at hk;cases hk
  obtain⟨c,hc⟩:=I.ok.has x (.inl hk)
  obtain⟨w',z⟩:=I.cell x c hc
  refine wpAny_storeName_cell I.ok.kind hk hc z (λh' hc' hs=> ?_)
  obtain⟨oc,hoc,hocd⟩:=id z
  refine h {s with heap:=h'} ⟨I.ok,I.os,I.bare,⟨λb o e n hb hx=> ?_,λb o e n hb hx=> ?_,I.base.free,λb o e hx=> ?_,I.base.tups,I.base.frzs,I.base.tbls⟩,⟨m,hn.sameBut hs (Ne.symm (cne x c hc)),λj y v' e1 e2 e3=> ?_⟩,λy c' e=> ?_,I.free,I.freeC,λp hp=> ?_,tracked ⟨oc,hoc,I.freeC x c hc⟩ hs,by simpa using I.len⟩ ⟨c,hs,.inr hc⟩
  ·exact(hs.2 b (ne_of_lt (lt_of_lt_of_le (lt_size e) (I.ok.cab x c hfn hc)))).trans (I.base.keep b o e n hb hx)
  ·obtain⟨sl,e1⟩:=I.base.slot b o e n hb hx
   exact⟨sl,(hs.2 b (ne_of_lt (lt_of_lt_of_le (lt_size e) (I.ok.cab x c hfn hc)))).trans e1⟩
  ·obtain⟨o',e1⟩:=I.base.there b o e hx
   exact⟨o',(hs.2 b (ne_of_lt (lt_of_lt_of_le (lt_size e) (I.ok.cab x c hfn hc)))).trans e1⟩
  ·by_cases hj:j=i
   ·subst hj
    rw[hi]at e1;cases e1
    rw[List.getElem?_set_self hiσ]at e2
    cases e2
    exact⟨u,r,.inr ⟨.inl hk,c,hc,hc'⟩⟩
   ·rw[List.getElem?_set_ne (Ne.symm hj)]at e2
    obtain⟨u',r',q⟩:=hl j y v' e1 e2 e3
    refine⟨u',r', ?_⟩
    rcases q with q|⟨k,c',e,z'⟩
    ·exact .inl q
    ·refine .inr ⟨k,c',e,z'.sameBut hs ?_⟩
     rintro rfl
     exact hj (MG hN e1 (I.ok.inj _ _ _ e hc▸hi))
  ·by_cases hcc:c'=c
   ·subst hcc;exact⟨_,hc'⟩
   ·obtain⟨w2,z2⟩:=I.cell y c' e
    exact⟨w2,z2.sameBut hs hcc⟩
  ·obtain⟨e,n,ne,nf,d⟩:=I.pin p hp
   refine⟨(hs.2 p.1 ?_).trans e,n,ne,nf,d⟩
   intro q
   rw[q,hoc]at e
   have q':oc=p.2:=Option.some.inj e
   exact d w' (by rw[<-q'];exact hocd)
theorem FQ{M:Model}{A:Around}{E:Value->Shared->Prop}{i:Nat}{x:Str}{v:V}{u:Value}{Q:Unit->Shared->Prop}(I:Inv X pins σ H s)(hN:X.N.Nodup)(hi:X.N[i]? =some x)(hx:Loc X.env.scope x)(r:RelV v u)
  (h:∀s',Inv X pins (σ.set i (some v)) H s'->Q () s')(hf:X.fn x=true\/X.env.scope.names.lookup x=some .local:=by first|exact .inl rfl|exact .inr rfl|assumption):wpAny M A (storeName X.env x u) Q E s:=
 HU I hN hi hx r (λs' I' _=>h s' I') hf
theorem Inv.call'{s':Shared}{ch:List Addr}(I:Inv X pins σ H s)(ho:s'.os=s.os)(u:Un (frs X.stack) ch H H' s.heap s'.heap)(hok:HOk X.prog X.w H' s'.heap)(hg:AllBare s'.gens)
  (hch:∀b∈ch,(b∈X.ex\/X.s₀.heap.objs.size<=b)/\b≠X.env.locals/\(∀x c,X.env.cells.lookup x=some c->c≠b)/\∀p∈X.pn++pins,p.1≠b):Inv X pins σ H' s':=by
 obtain⟨h',g',d',t',o'⟩:=s'
 have e:o'=s.os:=ho
 subst e
 exact I.call (g':=g') (t':=t') (d':=d') u hok hg hch
end
noncomputable abbrev XK:=Value->Option Addr->Hp->Prop
noncomputable abbrev St:=List (Option V)
noncomputable abbrev VK:=V->Hp->Prop
noncomputable abbrev TE:=St->Hp->VK->Prop
noncomputable abbrev TT:=St->Hp->(Bool->Hp->Prop)->Prop
noncomputable abbrev TA:=St->Hp->(List V->Hp->Prop)->Prop
structure Ends where
 nx:St->Hp->Prop
 rt:VK
 bk:St->Hp->Prop:=λ_ _=>False
 ct:St->Hp->Prop:=λ_ _=>False
noncomputable abbrev TS:=Ends->St->Hp->Prop
noncomputable def EP(X:Cx)(pins:List (Addr×Obj))(σ:St)(Q:VK)(u:Value)(s':Shared):Prop:=∃v H',Inv X pins σ H' s'/\RelV v u/\Q v H'
noncomputable def TP(X:Cx)(pins:List (Addr×Obj))(σ:St)(Q:Bool->Hp->Prop)(b:Bool)(s':Shared):Prop:=∃H',Inv X pins σ H' s'/\Q b H'
noncomputable def AP(X:Cx)(pins:List (Addr×Obj))(σ:St)(Q:List V->Hp->Prop)(us:List Value)(s':Shared):Prop:=∃vs H',Inv X pins σ H' s'/\Vals vs us/\Q vs H'
noncomputable def SP(X:Cx)(pins:List (Addr×Obj))(D:Ends)(f:Flow)(s':Shared):Prop:=
 match f with
 | .next=>∃σ' H',Inv X pins σ' H' s'/\D.nx σ' H'
 | .brk=>∃σ' H',Inv X pins σ' H' s'/\D.bk σ' H'
 | .cont=>∃σ' H',Inv X pins σ' H' s'/\D.ct σ' H'
 | .ret u=>∃v σ' H',Inv X pins σ' H' s'/\RelV v u/\D.rt v H'
noncomputable def PE(X:Cx)(e:Expr)(t:TE):Prop:=
 ∀(pins:List (Addr×Obj)) (s:Shared) (σ:St) (H:Hp) (Q:VK),Inv X pins σ H s->t σ H Q->wpAny (model X.prog X.w) X.A (eval e X.env) (EP X pins σ Q) X.xe s
noncomputable def PT(X:Cx)(e:Expr)(t:TT):Prop:=
 ∀(pins:List (Addr×Obj)) (s:Shared) (σ:St) (H:Hp) (Q:Bool->Hp->Prop),Inv X pins σ H s->t σ H Q->wpAny (model X.prog X.w) X.A (isTrue e X.env (eval e X.env)) (TP X pins σ Q) X.xe s
noncomputable def PW(X:Cx)(e:Expr)(t:TT):Prop:=
 ∀(whole:Sem Value) (pins:List (Addr×Obj)) (s:Shared) (σ:St) (H:Hp) (Q:Bool->Hp->Prop),Inv X pins σ H s->t σ H Q->wpAny (model X.prog X.w) X.A (isTrue e X.env whole) (TP X pins σ Q) X.xe s
theorem PW.pt{X:Cx}{e:Expr}{t:TT}(h:PW X e t):PT X e t:=h _
noncomputable def PA(X:Cx)(es:List Expr)(t:TA):Prop:=
 ∀(pos:Pos) (pins:List (Addr×Obj)) (s:Shared) (σ:St) (H:Hp) (Q:List V->Hp->Prop),Inv X pins σ H s->t σ H Q->wpAny (model X.prog X.w) X.A (spliced (backTo pos (starEach es X.env))) (AP X pins σ Q) X.xe s
noncomputable def PS(X:Cx)(st:Stmt)(t:TS):Prop:=
 ∀(pins:List (Addr×Obj)) (s:Shared) (σ:St) (H:Hp) (D:Ends),Inv X pins σ H s->t D σ H->wpAny (model X.prog X.w) X.A (exec st X.env) (SP X pins D) X.xe s
noncomputable def PSs(X:Cx)(st:List Stmt)(t:TS):Prop:=
 ∀(pins:List (Addr×Obj)) (s:Shared) (σ:St) (H:Hp) (D:Ends),Inv X pins σ H s->t D σ H->wpAny (model X.prog X.w) X.A (execs st X.env) (SP X pins D) X.xe s
theorem thn{α:Type}{t:Sem α}{Q Q':α->Shared->Prop}{M:Model}{A:Around}{E:Value->Shared->Prop}{s:Shared}(h:wpAny M A t Q E s)(hQ:∀a s,Q a s->Q' a s):wpAny M A t Q' E s:=wpAny_mono h hQ λ_ _ x=>x
section
variable{X:Cx}
inductive tVar(i:Nat)(σ:St)(H:Hp)(Q:VK):Prop
 |mk:∀v,(σ[i]? =some (some v))->(Q v H)->tVar i σ H Q
noncomputable def tC(v:V):TE:=λ_ H Q=>Q v H
theorem cdZ{i:Nat}{x:Str}{pos:Pos}(hN:X.N[i]? =some x)(hv:Vis X.env.scope x)(hd:(x==("__debug__":Str))=false:=by decide)(hcd:(x==("__classdict__":Str))=false:=by decide):PE X (.Name x pos) (tVar i):=by
 intro pins s σ H Q I h
 obtain⟨v,e,h⟩:=h
 obtain⟨m,hn,hl⟩:=I.loc
 obtain⟨u,r,l⟩:=hl i x v hN e hv
 have fin:EP X pins σ Q u s:=⟨v,H,I,r,h⟩
 rcases l with⟨hk,hm⟩|⟨hk,c,hc,hcell⟩
 ·exact wpAny_Name (wpAny_loadName_local I.ok.kind hk hn hm fin) hd
 ·rcases hk with hk|hk
  ·exact wpAny_Name (wpAny_loadName_cell I.ok.kind hk hc hcell fin) hd
  ·exact wpAny_Name (wpAny_loadName_free I.ok.kind hk hc hcell fin hcd) hd
theorem A5{i j pos}:PE X (.Constant (.int i) j pos) (tC (.int i)):=λ_ _ _ H _ I h=>wpAny_Constant_int ⟨.int i,H,I.tok _,⟨_,rfl⟩,h⟩
theorem W5{b j pos}:PE X (.Constant (.bool b) j pos) (tC (.bl b)):=λ_ _ _ H _ I h=>Constant_bool ⟨.bl b,H,I,rfl,h⟩
theorem N7{j pos}:PE X (.Constant .none j pos) (tC .non):=λ_ _ _ H _ I h=>Constant_none ⟨.non,H,I,rfl,h⟩
theorem A8{x j pos}:PE X (.Constant (.str x) j pos) (tC (.str x)):=λ_ _ _ H _ I h=>Calls.Constant_str ⟨.str x,H,I.tok _,⟨_,rfl⟩,h⟩
noncomputable def Gl(X:Cx)(x:Str):Prop:=X.env.kindOf x=some .globalImplicit
theorem BF{E:Value->Shared->Prop}{pins:List (Addr×Obj)}{s:Shared}{σ:St}{H:Hp}{x:Str}{u:Value}{pos:Pos}{Q:Value->Shared->Prop}(I:Inv X pins σ H s)(hg:Gl X x)(hm:X.mg x=some u)(h:Q u s)
  (hd:(x==("__debug__":Str))=false:=by decide):wpAny (model X.prog X.w) X.A (eval (.Name x pos) X.env) Q E s:=
 Calls.Name_function_global I.ok.kind hg (Calls.loadGlobal_global (by rw[I.ok.glob];exact I.mod.glob.keeps I.bk) hm h) hd
theorem AW{E:Value->Shared->Prop}{pins:List (Addr×Obj)}{s:Shared}{σ:St}{H:Hp}{x:Str}{u:Value}{pos:Pos}{Q:Value->Shared->Prop}(I:Inv X pins σ H s)(hg:Gl X x)(hm:X.mg x=none)(hv:bootBuiltins x=some u)(h:Q u s)
  (hn:x≠ "__name__":=by decide)(hd:(x==("__debug__":Str))=false:=by decide):wpAny (model X.prog X.w) X.A (eval (.Name x pos) X.env) Q E s:=by
 obtain⟨mb,h1,h2⟩:=I.mod.blt
 exact Calls.Name_function_global I.ok.kind hg (Calls.loadGlobal_builtin (by rw[I.ok.glob];exact I.mod.glob.keeps I.bk) hm (by rw[I.ok.blt];exact h1.keeps I.bk) ((h2 x hn).trans hv) h) hd
theorem BK{x:Str}{v:V}{u:Value}{pos:Pos}(hg:Gl X x)(hm:X.mg x=some u)(r:RelV v u)(hd:(x==("__debug__":Str))=false:=by decide):PE X (.Name x pos) (tC v):=
 λ_ _ _ H _ I h=>BF I hg hm ⟨v,H,I,r,h⟩ hd
theorem K8{x:Str}{v:V}{u:Value}{pos:Pos}(hg:Gl X x)(hm:X.mg x=none)(hv:bootBuiltins x=some u)(r:RelV v u)(hn:x≠ "__name__":=by decide)(hd:(x==("__debug__":Str))=false:=by decide):PE X (.Name x pos) (tC v):=
 λ_ _ _ H _ I h=>AW I hg hm hv ⟨v,H,I,r,h⟩ hn hd
variable{a b:Expr}{ta tb:TE}{pos:Pos}
variable{tA tB':TT}{rest:List Expr}
noncomputable def dUZ(t u:TT):TT:=fun σ H Q=>t σ H λc H1=>if c=true then u σ H1 Q else Q false H1
noncomputable def tOr(t u:TT):TT:=fun σ H Q=>t σ H λc H1=>if c=true then Q true H1 else u σ H1 Q
noncomputable def d6Z(t:TT):TT:=fun σ H Q=>t σ H λc H1=>Q (!c) H1
theorem EC(ha:PT X a tA):PW X (.BoolOp .And [a] pos) tA:=by
 intro wh pins s σ H Q I h
 refine isTrue_and (thn (ha pins s σ H Q I h) λc s1 e=> ?_)
 cases c with
 |true=>exact isTrue_and_nil e
 |false=>exact e
theorem W0(ha:PT X a tA):PW X (.BoolOp .Or [a] pos) tA:=by
 intro wh pins s σ H Q I h
 refine isTrue_or (thn (ha pins s σ H Q I h) λc s1 e=> ?_)
 cases c with
 |false=>exact isTrue_or_nil e
 |true=>exact e
theorem JY(ha:PT X a tA)(hb:PW X (.BoolOp .And (b::rest) pos) tB'):PW X (.BoolOp .And (a::b::rest) pos) (dUZ tA tB'):=by
 intro wh pins s σ H Q I h
 refine isTrue_and (thn (ha pins s σ H _ I h) λc s1 ⟨H1,I1,q1⟩=> ?_)
 cases c with
 |true=>exact hb wh pins s1 σ H1 Q I1 q1
 |false=>exact⟨H1,I1,q1⟩
theorem X8(ha:PT X a tA)(hb:PW X (.BoolOp .Or (b::rest) pos) tB'):PW X (.BoolOp .Or (a::b::rest) pos) (tOr tA tB'):=by
 intro wh pins s σ H Q I h
 refine isTrue_or (thn (ha pins s σ H _ I h) λc s1 ⟨H1,I1,q1⟩=> ?_)
 cases c with
 |true=>exact⟨H1,I1,q1⟩
 |false=>exact hb wh pins s1 σ H1 Q I1 q1
theorem KI(ha:PT X a tA):PT X (.UnaryOp .Not a pos) (d6Z tA):=by
 intro pins s σ H Q I h
 exact isTrue_not (ha pins s σ H (λc H1=>Q (!c) H1) I h)
noncomputable def c1Z(ta tb:TE):TE:=fun σ H Q=>ta σ H λx H1=>∃c,x=.bl c/\if c=true then tb σ H1 Q else Q (.bl false) H1
noncomputable def cRZ(ta:TE):TE:=fun σ H Q=>ta σ H λx H1=>∃c,x=.bl c/\Q (.bl (!c)) H1
theorem CJ{op}{t:TE}(h:PE X a t):PE X (.BoolOp op [a] pos) t:=λpins s σ H Q I hw=>BoolOp_one (h pins s σ H Q I hw)
theorem CD(ha:PE X a ta)(hb:PE X (.BoolOp .And (b::rest) pos) tb):PE X (.BoolOp .And (a::b::rest) pos) (c1Z ta tb):=by
 intro pins s σ H Q I h
 refine BoolOp_and (thn (ha pins s σ H _ I h) λv s1 ⟨x,H1,I1,r1,q1⟩=> ?_)
 obtain⟨c,rfl,q1⟩:=q1
 cases r1
 refine wpAny_truthy_bool ?_
 cases c with
 |true=>exact hb pins s1 σ H1 Q I1 q1
 |false=>exact⟨.bl false,H1,I1,rfl,q1⟩
theorem bNZ(ha:PE X a ta):PE X (.UnaryOp .Not a pos) (cRZ ta):=by
 intro pins s σ H Q I h
 refine UnaryOp_ (thn (ha pins s σ H _ I h) λv s1 ⟨x,H1,I1,r1,q1⟩=> ?_)
 obtain⟨c,rfl,q1⟩:=q1
 cases r1
 exact not_of (wpAny_truthy_bool ⟨.bl (!c),H1,I1,rfl,q1⟩)
noncomputable def tIf(t:TT)(ta tb:TE):TE:=fun σ H Q=>t σ H λc H1=>if c=true then ta σ H1 Q else tb σ H1 Q
theorem Q4{c:Expr}(hc:PT X c tA)(ha:PE X a ta)(hb:PE X b tb):PE X (.IfExp c a b pos) (tIf tA ta tb):=by
 intro pins s σ H Q I h
 refine wpAny_IfExp (thn (hc pins s σ H _ I h) λd s1 ⟨H1,I1,q1⟩=> ?_)
 cases d with
 |true=>exact ha pins s1 σ H1 Q I1 q1
 |false=>exact hb pins s1 σ H1 Q I1 q1
end
noncomputable def SqL(K:FZ)(H:Hp)(a:Addr)(xs:List V):Prop:=
 Rd H a (.lst xs)\/
  ∃(o:Obj) (its:Array Value) (n:Nat),K.lookup a=some o/\o.cls=.type "list"/\o.dict=none/\o.data=.seq its n/\its.size<=sizeLine/\Vals xs its.toList
noncomputable def SqT(K:FZ)(H:Hp)(a:Addr)(xs:List V):Prop:=
 Rd H a (.tup xs)\/
  ∃(o:Obj) (its:Array Value) (n:Nat),K.lookup a=some o/\o.cls=.type "tuple"/\o.data=.seq its n/\its.size<=sizeLine/\Vals xs its.toList
noncomputable def dJZ:Value->Option V
 | .none=>some .non
 | .bool b=>some (.bl b)
 | .int i _=>some (.int i)
 | .str x _=>some (.str x)
 | .bytes b _=>some (.byt b)
 | .float b _=>some (.flt b)
 | .ref a=>some (.ref a)
 | .type n=>some (.ty n)
 |_=>none
theorem RelV.abs{x:V}{u:Value}(r:RelV x u):dJZ u=some x:=by
 cases x with
 |non=>cases r;rfl
 |bl _=>cases r;rfl
 |int _=>obtain⟨t,rfl⟩:=r;rfl
 |str _=>obtain⟨t,rfl⟩:=r;rfl
 |byt _=>obtain⟨t,rfl⟩:=r;rfl
 |flt _=>obtain⟨t,rfl⟩:=r;rfl
 |ref _=>cases r;rfl
 |ty _=>cases r;rfl
theorem RelV.inj{x y:V}{u:Value}(r:RelV x u)(q:RelV y u):x=y:=Option.some.inj (r.abs.symm.trans q.abs)
theorem Vals.inj:∀ {xs ys:List V} {us:List Value},Vals xs us->Vals ys us->xs=ys
 |_,_,_,.nil,.nil=>rfl
 |_,_,_,.cons r t,.cons r' t'=>by rw[r.inj r',Vals.inj t t']
section
variable{X:Cx}{pins:List (Addr×Obj)}{σ:St}{H:Hp}{s:Shared}{a:Addr}{xs ys:List V}
theorem SqL.of{K:FZ}(h:H a=some (.lst xs)):SqL K H a xs:=.inl (.inl h)
theorem SqT.of{K:FZ}(h:H a=some (.tup xs)):SqT K H a xs:=.inl (.inl h)
theorem Inv.list(I:Inv X pins σ H s)(h:SqL X.K H a xs):∃its:List Value,Vals xs its/\PlainL s.heap a its.toArray/\xs.length<=sizeLine:=by
 rcases h with h|⟨o,its,n,hk,hc,hd,hs,hz,r⟩
 ·obtain⟨z,its,n,r,e⟩:=h.ok I.hok
  exact⟨its,r,⟨_,n,e,rfl,rfl,rfl⟩,z⟩
 ·refine⟨its.toList,r,⟨o,n,I.kIn a o hk,hc,hd,by simpa using hs⟩, ?_⟩
  have e:=r.length
  simp only[Array.length_toList]at e
  omega
theorem Inv.tuple(I:Inv X pins σ H s)(h:SqT X.K H a xs):∃its:List Value,Vals xs its/\IsTup s.heap a its.toArray/\xs.length<=sizeLine:=by
 rcases h with h|⟨o,its,n,hk,hc,hs,hz,r⟩
 ·obtain⟨z,its,r,p⟩:=h.ok I.hok
  exact⟨its,r,p,z⟩
 ·refine⟨its.toList,r,⟨o,I.kIn a o hk,hc,n,by simpa using hs⟩, ?_⟩
  have e:=r.length
  simp only[Array.length_toList]at e
  omega
theorem Inv.list_inj(I:Inv X pins σ H s)(h:SqL X.K H a xs)(h':SqL X.K H a ys):xs=ys:=by
 obtain⟨its,r,⟨o,n,e,_,_,d⟩,_⟩:=I.list h
 obtain⟨its',r',⟨o',n',e',_,_,d'⟩,_⟩:=I.list h'
 rw[e]at e';cases e'
 rw[d]at d'
 injection d' with d1 _
 have:its=its':=by simpa using congrArg Array.toList d1
 subst this
 exact r.inj r'
theorem Inv.tuple_inj(I:Inv X pins σ H s)(h:SqT X.K H a xs)(h':SqT X.K H a ys):xs=ys:=by
 obtain⟨its,r,⟨o,e,_,n,d⟩,_⟩:=I.tuple h
 obtain⟨its',r',⟨o',e',_,n',d'⟩,_⟩:=I.tuple h'
 rw[e]at e';cases e'
 rw[d]at d'
 injection d' with d1 _
 have:its=its':=by simpa using congrArg Array.toList d1
 subst this
 exact r.inj r'
end
noncomputable abbrev Cx.wish(X:Cx)(E:Value->Shared->Prop):Cx:={X with xe:=E}
noncomputable abbrev Cx.nox(X:Cx):Cx:=X.wish λ_ _=>False
theorem Cx.Ok.wish{X:Cx}(ok:X.Ok)(E:Value->Shared->Prop):(X.wish E).Ok:=
 ⟨ok.mod,ok.kind,ok.glob,ok.blt,ok.above,ok.inj,ok.has,ok.cab,ok.hd,ok.frames,ok.stk,ok.exf,ok.bs,ok.bsz,ok.noex,ok.exfs,ok.funs,ok.frf⟩
theorem Cx.Ok.unwish{X:Cx}{E:Value->Shared->Prop}(ok:(X.wish E).Ok):X.Ok:=
 ⟨ok.mod,ok.kind,ok.glob,ok.blt,ok.above,ok.inj,ok.has,ok.cab,ok.hd,ok.frames,ok.stk,ok.exf,ok.bs,ok.bsz,ok.noex,ok.exfs,ok.funs,ok.frf⟩
section
variable{X:Cx}{pins:List (Addr×Obj)}{σ:St}{H:Hp}{s:Shared}{E:Value->Shared->Prop}
theorem Inv.wish(I:Inv X pins σ H s)(E:Value->Shared->Prop):Inv (X.wish E) pins σ H s:=⟨I.ok.wish E,I.os,I.bare,I.base,I.loc,I.cell,I.free,I.freeC,I.pin,I.hok,I.len⟩
theorem Inv.unwish(I:Inv (X.wish E) pins σ H s):Inv X pins σ H s:=⟨I.ok.unwish,I.os,I.bare,I.base,I.loc,I.cell,I.free,I.freeC,I.pin,I.hok,I.len⟩
theorem SP.unwish{D:Ends}{f:Flow}{s':Shared}(h:SP (X.wish E) pins D f s'):SP X pins D f s':=by
 cases f with
 |next=>obtain⟨σ',H',I,q⟩:=h;exact⟨σ',H',I.unwish,q⟩
 |brk=>obtain⟨σ',H',I,q⟩:=h;exact⟨σ',H',I.unwish,q⟩
 |cont=>obtain⟨σ',H',I,q⟩:=h;exact⟨σ',H',I.unwish,q⟩
 |ret u=>obtain⟨v,σ',H',I,r,q⟩:=h;exact⟨v,σ',H',I.unwish,r,q⟩
theorem PSs.nox{st:List Stmt}{t:TS}(h:PSs X.nox st t):PSs X st t:=λpins s σ H D I hw=>
 wpAny_mono (h pins s σ H D (I.wish _) hw) (λ_ _ q=>q.unwish) λ_ _ z=>False.elim z
variable{st:Stmt}{rest:List Stmt}{t u:TS}{e:Expr}{te:TE}{pos:Pos}
noncomputable def c9Z:TS:=λD σ H=>D.nx σ H
noncomputable def M0(t u:TS):TS:=λD σ H=>t {D with nx:=u D} σ H
theorem C1:PSs X [] c9Z:=λ_ _ σ H _ I h=>wpAny_execs_nil ⟨σ,H,I,h⟩
theorem A6(h1:PS X st t)(h2:PSs X rest u):PSs X (st::rest) (M0 t u):=by
 intro pins s σ H D I h
 refine wpAny_execs_cons (thn (h1 pins s σ H {D with nx:=u D} I h) λf s1 q=> ?_)
 cases f with
 |next=>
  obtain⟨σ',H',I',q⟩:=q
  exact h2 pins s1 σ' H' D I' q
 |ret v=>exact q
 |brk=>exact q
 |cont=>exact q
theorem A7(h1:PS X st t):PSs X [st] t:=by
 intro pins s σ H D I h
 refine wpAny_execs_cons (thn (h1 pins s σ H D I h) λf s1 q=> ?_)
 cases f with
 |next=>exact wpAny_execs_nil q
 |ret v=>exact q
 |brk=>exact q
 |cont=>exact q
theorem Inv.quiet{pins:List (Addr×Obj)}{σ:St}{H:Hp}{s:Shared}(I:Inv X pins σ H s):interactive X.env=false:=by simp[interactive,I.ok.kind]
noncomputable def c0Z(te:TE):TS:=λD σ H=>te σ H λ_ H1=>D.nx σ H1
theorem C0(he:PE X e te)(hs:swapsWith e none pos.line X.env=pure false:=by rfl):PS X (.Expr e pos) (c0Z te):=by
 intro pins s σ H D I h
 exact wpAny_Expr_any (thn (he pins s σ H _ I h) λv s1 ⟨x,H1,I1,r1,q1⟩=>⟨σ,H1,I1,q1⟩) I.quiet hs
noncomputable def dBZ(te:TE):TS:=λD σ H=>te σ H D.rt
theorem B5(he:PE X e te):PS X (.Return (some e) pos) (dBZ te):=by
 intro pins s σ H D I h
 exact wpAny_Return_some (thn (he pins s σ H _ I h) λv s1 ⟨x,H1,I1,r1,q1⟩=>⟨x,σ,H1,I1,r1,q1⟩)
noncomputable def cUZ:TS:=λD _ H=>D.rt .non H
theorem W2:PS X (.Return none pos) cUZ:=λ_ _ σ H _ I h=>wpAny_Return_none ⟨.non,σ,H,I,rfl,h⟩
noncomputable def dGZ(c:TT)(t u:TS):TS:=λD σ H=>c σ H λb H1=>if b=true then t D σ H1 else u D σ H1
theorem C8{c:Expr}{a b:List Stmt}{tc:TT}(hc:PT X c tc)(ha:PSs X a t)(hb:PSs X b u):PS X (.If c a b pos) (dGZ tc t u):=by
 intro pins s σ H D I h
 refine wpAny_If (thn (hc pins s σ H _ I h) λd s1 ⟨H1,I1,q1⟩=> ?_)
 cases d with
 |true=>exact ha pins s1 σ H1 D I1 q1
 |false=>exact hb pins s1 σ H1 D I1 q1
end
noncomputable abbrev TG:=V->St->Hp->(St->Hp->Prop)->Prop
noncomputable abbrev TGs:=List V->St->Hp->(St->Hp->Prop)->Prop
noncomputable def PG(X:Cx)(target:Expr)(t:TG):Prop:=
 ∀(pins:List (Addr×Obj)) (s:Shared) (σ:St) (H:Hp) (v:V) (u:Value) (Q:St->Hp->Prop),Inv X pins σ H s->RelV v u->t v σ H Q->
  wpAny (model X.prog X.w) X.A (assign target X.env u) (λ_ s'=>∃σ' H',Inv X pins σ' H' s'/\Q σ' H') X.xe s
noncomputable def PGs(X:Cx)(ts:List Expr)(t:TGs):Prop:=
 ∀(pins:List (Addr×Obj)) (s:Shared) (σ:St) (H:Hp) (vs:List V) (us:List Value) (Q:St->Hp->Prop),Inv X pins σ H s->Vals vs us->t vs σ H Q->
  wpAny (model X.prog X.w) X.A (assignInOrder ((assignEach ts X.env).map (·.2)) us) (λ_ s'=>∃σ' H',Inv X pins σ' H' s'/\Q σ' H') X.xe s
noncomputable abbrev bLZ:=V->V->V->Hp->(Hp->Prop)->Prop
noncomputable def bAZ(X:Cx)(t:bLZ):Prop:=
 ∀(pins:List (Addr×Obj)) (s:Shared) (σ:St) (H:Hp) (o i v:V) (ov iv u:Value) (Q:Hp->Prop),Inv X pins σ H s->RelV o ov->RelV i iv->RelV v u->t o i v H Q->
  wpAny (model X.prog X.w) X.A (setItem ov iv u) (λ_ s'=>∃H',Inv X pins σ H' s'/\Q H') X.xe s
section
variable{X:Cx}{pos:Pos}
noncomputable def YB(i:Nat):TG:=λv σ H Q=>Q (σ.set i (some v)) H
theorem G4{i:Nat}{x:Str}(hN:X.N.Nodup)(hi:X.N[i]? =some x)(hx:Loc X.env.scope x)(hf:X.fn x=true\/X.env.scope.names.lookup x=some .local:=by first|exact .inl rfl|exact .inr rfl|assumption):PG X (.Name x pos) (YB i):=by
 intro pins s σ H v u Q I r h
 exact wpAny_assign_Name (FQ I hN hi hx r (λs' I'=>⟨_,H,I',h⟩) hf)
noncomputable def dZZ:TGs:=λvs σ H Q=>vs=[]/\Q σ H
noncomputable def cJZ(t:TG)(u:TGs):TGs:=λvs σ H Q=>∃v r,vs=v::r/\t v σ H fun σ' H'=>u r σ' H' Q
theorem BJ:PGs X [] dZZ:=by
 intro pins s σ H vs us Q I r h
 obtain⟨e,h⟩:=h
 subst e
 cases r
 exact assignInOrder_nil ⟨σ,H,I,h⟩
theorem L0{e:Expr}{es:List Expr}{t:TG}{u:TGs}(h1:PG X e t)(h2:PGs X es u)
  (hs:(assignEach (e::es) X.env).map (·.2)=assign e X.env::(assignEach es X.env).map (·.2):=by rfl):PGs X (e::es) (cJZ t u):=by
 intro pins s σ H vs us Q I r h
 obtain⟨v,vr,e1,h⟩:=h
 subst e1
 cases r with
 |cons r rr=>
  rw[hs]
  refine assignInOrder_cons (thn (h1 pins s σ H _ _ _ I r h) λ_ s1 ⟨σ1,H1,I1,q1⟩=> ?_)
  exact h2 pins s1 σ1 H1 _ _ Q I1 rr q1
noncomputable def dVZ(K:FZ)(n:Nat)(t:TGs):TG:=λv σ H Q=>∃a xs,v=.ref a/\SqT K H a xs/\xs.length=n/\t xs σ H Q
theorem JL{es:List Expr}{k:Nat}{t:TGs}{n:Nat}(hc:X.calm=true)(h:PGs X es t)
  (hn:(assignEach es X.env).length=n:=by rfl)(hst:(assignEach es X.env).findIdx? (·.1)=none:=by rfl):PG X (.Tuple es k pos) (dVZ X.K n t):=by
 intro pins s σ H v u Q I r hw
 obtain⟨a,xs,e1,hq,hl,hw⟩:=hw
 subst e1
 cases r
 obtain⟨its,rv,ht,hz⟩:=I.tuple hq
 refine assign_Tuple_tuple (I.ok.hd hc) ht (by simp[hn,<-hl,rv.length]) hst λh' hx=> ?_
 have I1:Inv X pins σ H {s with heap:=h'}:=I.kept (t':=s.toks) λb o e=>hx b o (ne_of_lt (lt_size e)) e
 exact h pins _ σ H xs _ Q I1 (by simpa using rv) hw
noncomputable def dEZ(to ti:TE)(t:bLZ):TG:=λv σ H Q=>to σ H λo H1=>ti σ H1 λi H2=>t o i v H2 λH3=>Q σ H3
theorem W3{o i:Expr}{to ti:TE}{t:bLZ}(ho:PE X o to)(hi:PE X i ti)(hs:bAZ X t)
  (ha:∀v,assign (.Subscript o i pos) X.env v=(do
   let ov<-holding [v] (eval o X.env)
   let iv<-holding [v,ov] (eval i X.env)
   standAt pos
   holding [v,ov,iv] (setItem ov iv v)
   release [v,ov,iv] []):=by intro _;rfl):PG X (.Subscript o i pos) (dEZ to ti t):=by
 intro pins s σ H v u Q I r h
 rw[ha]
 refine bZ (wpAny_holding (thn (ho pins s σ H _ I h) λov s1 ⟨x,H1,I1,r1,q1⟩=> ?_))
 refine bZ (wpAny_holding (thn (hi pins s1 σ H1 _ I1 q1) λiv s2 ⟨y,H2,I2,r2,q2⟩=> ?_))
 refine bZ (wpAny_standAt (bZ (wpAny_holding (thn (hs pins s2 σ H2 x y v ov iv u _ I2 r1 r2 r q2) λ_ s3 ⟨H3,I3,q3⟩=> ?_))))
 exact wpAny_release ⟨σ,H3,I3,q3⟩
noncomputable def bWZ(te:TE)(g:TG):TS:=λD σ H=>te σ H λx H1=>g x σ H1 D.nx
theorem P8{tg e:Expr}{te:TE}{g:TG}(he:PE X e te)(hg:PG X tg g)(hs:swapsWithSole [tg] e pos.line X.env=pure false:=by rfl)(hw:swappedStores [tg] e X.env=pure none:=by rfl)
  (h1:(assignEach [tg] X.env).map (·.2)=[assign tg X.env]:=by rfl):PS X (.Assign [tg] e pos) (bWZ te g):=by
 intro pins s σ H D I h
 refine wpAny_Assign_stores (thn (he pins s σ H _ I h) λv s1 ⟨x,H1,I1,r1,q1⟩=> ?_) hs hw
 rw[h1]
 exact thn (hg pins s1 σ H1 x v _ I1 r1 q1) λ_ s2 q=>q
theorem C5{i:Nat}{x:Str}{e:Expr}{te:TE}{pos':Pos}(hN:X.N.Nodup)(hi:X.N[i]? =some x)(hx:Loc X.env.scope x)(he:PE X e te)(hs:swapsWith e (some (.Name x pos')) pos.line X.env=pure false:=by rfl)(hf:X.fn x=true\/X.env.scope.names.lookup x=some .local:=by first|exact .inl rfl|exact .inr rfl|assumption):
  PS X (.Assign [.Name x pos'] e pos) (bWZ te (YB i)):=by
 intro pins s σ H D I h
 refine wpAny_Assign_Name (thn (he pins s σ H _ I h) λv s1 ⟨y,H1,I1,r1,q1⟩=> ?_) hs
 exact FQ I1 hN hi hx r1 (λs2 I2=>⟨_,H1,I2,q1⟩) hf
noncomputable def bVZ(c:TT)(tb:TS):TS:=λD σ H=>∃W:Nat->St->Hp->Prop,(∃m,W m σ H)/\∀m σ H,W m σ H->
 c σ H λb H1=>if b=true then∃N:St->Hp->Prop,(∀σ' H',N σ' H'->∃m',m'<m/\W m' σ' H')/\tb {D with nx:=N,ct:=N,bk:=D.nx} σ H1 else D.nx σ H1
theorem MV{c:Expr}{body:List Stmt}{tc:TT}{tb:TS}(hp:PassesOwn (model X.prog X.w) X.A X.env X.xe)(hc:PT X c tc)(hb:PSs X body tb):PS X (.While c body [] pos) (bVZ tc tb):=by
 intro pins s σ H D I h
 obtain⟨W,⟨m0,w0⟩,turn⟩:=h
 refine wpAny_While (codeAny_whileLoop (λn s'=>∃σ' H',Inv X pins σ' H' s'/\W n σ' H') ?_ m0 ⟨σ,H,I,w0⟩)
 rintro n s1 ⟨σ1,H1,I1,w1⟩
 refine wpAny_passesOwn hp (thn (hc pins s1 σ1 H1 _ I1 (turn n σ1 H1 w1)) λb s2 ⟨H2,I2,q2⟩=> ?_)
 cases b with
 |true=>
  obtain⟨N,hN,q2⟩:=q2
  rw[if_pos rfl]
  refine wpAny_passesOwn hp (thn (hb pins s2 σ1 H2 _ I2 q2) λf s3 q3=> ?_)
  cases f with
  |next=>
   obtain⟨σ3,H3,I3,n3⟩:=q3
   obtain⟨m',hm,w3⟩:=hN σ3 H3 n3
   exact⟨m',hm,σ3,H3,I3,w3⟩
  |cont=>
   obtain⟨σ3,H3,I3,n3⟩:=q3
   obtain⟨m',hm,w3⟩:=hN σ3 H3 n3
   exact⟨m',hm,σ3,H3,I3,w3⟩
  |brk=>exact q3
  |ret v=>exact q3
 |false=>
  rw[if_neg nZ]
  exact wpAny_execs_nil ⟨σ1,H2,I2,q2⟩
end
structure It where
 go:Nat->Hp->Prop
 yld:Nat->Hp->V->Hp->Prop
 stop:Nat->Hp->Prop
noncomputable def QK(X:Cx)(pins:List (Addr×Obj))(H:Hp)(b:Addr):Prop:=
 H b=none/\b≠X.env.locals/\b∉X.fs/\(b∈X.ex\/X.s₀.heap.objs.size<=b)/\(∀x c,X.env.cells.lookup x=some c->c≠b)/\∀p∈X.pn++pins,p.1≠b
theorem Inv.fpOk{X:Cx}{pins:List (Addr×Obj)}{σ:St}{H H':Hp}{s:Shared}{b:Addr}(I:Inv X pins σ H s)(hb:s.heap.objs.size<=b)(hn:H' b=none):QK X pins H' b:=by
 refine⟨hn,Nat.ne_of_gt (lt_of_lt_of_le I.lt hb),I.nofs hb,.inr (le_trans I.sz hb),λx c e z=> ?_,λp hp z=> ?_⟩
 ·obtain⟨v,q⟩:=I.cell x c e
  exact absurd (lt_of_lt_of_le q.lt (by rw[z];exact hb)) (lt_irrefl _)
 ·exact absurd (lt_of_lt_of_le (lt_size (I.pin p hp).1) (by rw[z];exact hb)) (lt_irrefl _)
structure Turn (P:Program) (w:World) (K:FZ) (tg:Expr) (J:It) (fp:List Addr) (it:Addr) (tn:Nat->Heap->Prop):Prop where
 mem:it∈fp
 obj:∀i h,tn i h->∀b∈fp,∃o,h.get? b=some o/\∀v,o.data≠ .cell v
 keep:∀i h h',tn i h->(∀b∈fp,∀o,h.get? b=some o->h'.get? b=some o)->tn i h'
 item:∀(X:Cx),X.prog=P->X.w=w->X.K=K->X.calm=true->∀(i:Nat) (pins:List (Addr×Obj)) (s:Shared) (σ:St) (H:Hp) (E:Value->Shared->Prop),Inv X pins σ H s->(∀b∈fp,QK X pins H b)->tn i s.heap->J.go i H->
  wpAny (model P w) X.A (pyNext (.ref it)) (λr s1=>∃u,r=some u/\
   wpAny (model P w) X.A (letOwnedTupleGo tg (.ref it) u) (λ_ s2=>∃x H',Inv X pins σ H' s2/\RelV x u/\J.yld i H x H'/\tn (i+1) s2.heap/\∀b∈fp,H' b=none) E s1) E s
 done:∀(X:Cx),X.prog=P->X.w=w->X.K=K->X.calm=true->∀(i:Nat) (pins:List (Addr×Obj)) (s:Shared) (σ:St) (H:Hp) (E:Value->Shared->Prop),Inv X pins σ H s->(∀b∈fp,QK X pins H b)->tn i s.heap->J.stop i H->
  wpAny (model P w) X.A (pyNext (.ref it)) (λr s1=>r=none/\Inv X pins σ H s1) E s
 self:∀(A:Around) (i:Nat) (s:Shared) (Q:Value->Shared->Prop) (E:Value->Shared->Prop),tn i s.heap->Q (.ref it) s->wpAny (model P w) A (pyIter (.ref it)) Q E s
noncomputable abbrev TI:=St->Hp->(It->Hp->Prop)->Prop
noncomputable def PIE(X:Cx)(pins:List (Addr×Obj))(σ:St)(tg:Expr)(R:It->Hp->Prop)(itv:Value)(s2:Shared):Prop:=
 ∃(it:Addr) (fp:List Addr) (tn:Nat->Heap->Prop) (J:It) (H':Hp),itv=.ref it/\Inv X pins σ H' s2/\Turn X.prog X.w X.K tg J fp it tn/\tn 0 s2.heap/\(∀b∈fp,QK X pins H' b)/\R J H'
noncomputable def PI(X:Cx)(tg iter:Expr)(wi:TI):Prop:=
 ∀(pins:List (Addr×Obj)) (s:Shared) (σ:St) (H:Hp) (R:It->Hp->Prop),Inv X pins σ H s->wi σ H R->
  wpAny (model X.prog X.w) X.A (eval iter X.env) (λv s1=>wpAny (model X.prog X.w) X.A (pyIter v) (PIE X pins σ tg R) X.xe s1) X.xe s
theorem SX{M:Model}{A:Around}{E:Value->Shared->Prop}{s:Shared}{tg:Expr}{it:Addr}{u:Value}{o:Obj}{n:String}{vs:Array Value}{Q:Unit->Shared->Prop}(ho:s.heap.get? it=some o)(hc:o.cls=.type n)(hd:o.data=.fields vs)
  (hn: ["enumerate","zip","dict_itemiterator","dict_reverseitemiterator","odict_iterator","itertools.zip_longest","itertools.pairwise"].contains n=false)(hQ:Q () s):wpAny M A (letOwnedTupleGo tg (.ref it) u) Q E s:=by
 unfold letOwnedTupleGo
 cases tg<;>first
  |exact pZ hQ
  |(cases u<;>first
    |exact pZ hQ
    |(refine bZ (wpAny_load ho ?_)
      rw[hc,hd]
      show wpAny M A (if(["enumerate","zip","dict_itemiterator","dict_reverseitemiterator","odict_iterator","itertools.zip_longest","itertools.pairwise"].contains n&&vs[0]? ==some (rawInt _))=true then _ else _) Q E s
      rw[if_neg (by intro h;rw[hn,Bool.false_and]at h;cases h)]
      exact pZ hQ))
noncomputable def Itl(K:FZ)(a:Addr):It:=
 ⟨λi H=>∃xs x,SqL K H a xs/\xs[i]? =some x,λi H x H'=>H'=H/\∀xs,SqL K H a xs->xs[i]? =some x,λi H=>∃xs,SqL K H a xs/\xs.length<=i⟩
noncomputable def Itt(K:FZ)(a:Addr):It:=
 ⟨λi H=>∃xs x,SqT K H a xs/\xs[i]? =some x,λi H x H'=>H'=H/\∀xs,SqT K H a xs->xs[i]? =some x,λi H=>∃xs,SqT K H a xs/\xs.length<=i⟩
noncomputable def Itr(lo:Int)(n:Nat):It:=⟨λi _=>i<n,λi H x H'=>H'=H/\x=.int (lo+i),λi _=>n<=i⟩
theorem HS{P:Program}{w:World}{K:FZ}{tg:Expr}(a it:Addr):Turn P w K tg (Itl K a) [it] it (λi h=>h.IsListIter it a i) where
 mem:=by simp
 obj:=λi h st b hb=>by
  have e:b=it:=by simpa using hb
  subst e
  obtain⟨o,e,c,d⟩:=st
  exact⟨o,e,λv z=>by rw[d]at z;cases z⟩
 keep:=λi h h' st k=>st.at λo e=>k it (by simp) o e
 item:=by
  intro X hP hw hK hc i pins s σ H E I hf st hg
  subst hP hw hK
  obtain⟨xs,x,hq,hx⟩:=hg
  obtain⟨its,rv,p,hz⟩:=I.list hq
  obtain⟨u,hu,ru⟩:=rv.get hx
  obtain⟨f0,f1,f2,f3,f4,f5⟩:=hf it (by simp)
  refine wpAny_pyNext_list_item st p.isList (x:=u) (by simpa using hu) λh' st' sb=> ?_
  have I1:Inv X pins σ H {s with heap:=h'}:=I.turned (t':=s.toks) (λb o hb e=>(sb.2 b hb).trans e) f0 f1 f3 f4 f5
  obtain⟨o,e,c,d⟩:=id st'
  exact⟨u,rfl,SX (s:={s with heap:=h'}) e c d (by decide) ⟨x,H,I1,ru,⟨rfl,λys hy=>by rw[I.list_inj hy hq];exact hx⟩,st',λb hb=>(hf b hb).1⟩⟩
 done:=by
  intro X hP hw hK hc i pins s σ H E I hf st hg
  subst hP hw hK
  obtain⟨xs,hq,hx⟩:=hg
  obtain⟨its,rv,p,hz⟩:=I.list hq
  obtain⟨f0,f1,f2,f3,f4,f5⟩:=hf it (by simp)
  have hl:=rv.length
  exact wpAny_pyNext_list_end (I.ok.hd hc) st p.isList (by simp;omega) λh' eb=>⟨rfl,I.turned (t':=s.toks) (λb o hb e=>eb b o hb e) f0 f1 f3 f4 f5⟩
 self:=λ_ _ _ _ _ st h=>wpAny_pyIter_listiter st h
theorem FA{P:Program}{w:World}{K:FZ}{tg:Expr}(a it:Addr):Turn P w K tg (Itt K a) [it] it (λi h=>h.IsTupleIter it a i) where
 mem:=by simp
 obj:=λi h st b hb=>by
  have e:b=it:=by simpa using hb
  subst e
  obtain⟨o,e,c,d⟩:=st
  exact⟨o,e,λv z=>by rw[d]at z;cases z⟩
 keep:=λi h h' st k=>st.at λo e=>k it (by simp) o e
 item:=by
  intro X hP hw hK hc i pins s σ H E I hf st hg
  subst hP hw hK
  obtain⟨xs,x,hq,hx⟩:=hg
  obtain⟨its,rv,p,hz⟩:=I.tuple hq
  obtain⟨u,hu,ru⟩:=rv.get hx
  obtain⟨f0,f1,f2,f3,f4,f5⟩:=hf it (by simp)
  refine wpAny_pyNext_tuple_item st (show s.heap.IsTuple a its.toArray from p) (x:=u) (by simpa using hu) λh' st' sb=> ?_
  have I1:Inv X pins σ H {s with heap:=h'}:=I.turned (t':=s.toks) (λb o hb e=>(sb.2 b hb).trans e) f0 f1 f3 f4 f5
  obtain⟨o,e,c,d⟩:=id st'
  exact⟨u,rfl,SX (s:={s with heap:=h'}) e c d (by decide) ⟨x,H,I1,ru,⟨rfl,λys hy=>by rw[I.tuple_inj hy hq];exact hx⟩,st',λb hb=>(hf b hb).1⟩⟩
 done:=by
  intro X hP hw hK hc i pins s σ H E I hf st hg
  subst hP hw hK
  obtain⟨xs,hq,hx⟩:=hg
  obtain⟨its,rv,p,hz⟩:=I.tuple hq
  obtain⟨f0,f1,f2,f3,f4,f5⟩:=hf it (by simp)
  have hl:=rv.length
  exact wpAny_pyNext_tuple_end (I.ok.hd hc) st (show s.heap.IsTuple a its.toArray from p) (by simp;omega) λh' eb=>⟨rfl,I.turned (t':=s.toks) (λb o hb e=>eb b o hb e) f0 f1 f3 f4 f5⟩
 self:=λ_ _ _ _ _ st h=>wpAny_pyIter_tupleiter st h
theorem PM{P:Program}{w:World}{K:FZ}{tg:Expr}(it:Addr)(lo:Int)(n:Nat):Turn P w K tg (Itr lo n) [it] it (λi h=>IsRangeIter h it (lo+(i:Nat)*1) ((n:Int) - (i:Nat)) 1) where
 mem:=by simp
 obj:=λi h st b hb=>by
  have e:b=it:=by simpa using hb
  subst e
  exact⟨_,st,λv z=>by
   have z':Data.fields _=Data.cell v:=z
   cases z'⟩
 keep:=λi h h' st k=>k it (by simp) _ st
 item:=by
  intro X hP hw hK hc i pins s σ H E I hf st hg
  subst hP hw hK
  obtain⟨f0,f1,f2,f3,f4,f5⟩:=hf it (by simp)
  have W:=Walks.range (prog:=X.prog) (w:=X.w) (I.ok.hd hc) it lo 1 n
  refine W.item i s _ _ hg st λv h' tk hv st' kk=> ?_
  obtain⟨t,rfl⟩:=hv
  have I1:Inv X pins σ H {s with heap:=h',toks:=tk}:=I.turned (λb o hb e=>kk b o (by simpa using hb) e) f0 f1 f3 f4 f5
  refine⟨_,rfl,SX (s:={s with heap:=h',toks:=tk}) (n:="range_iterator") st' rfl rfl (by decide) ⟨.int (lo+i),H,I1,⟨t, ?_⟩,⟨rfl,rfl⟩,st',λb hb=>(hf b hb).1⟩⟩
  rw[Int.mul_one]
 done:=by
  intro X hP hw hK hc i pins s σ H E I hf st hg
  subst hP hw hK
  obtain⟨f0,f1,f2,f3,f4,f5⟩:=hf it (by simp)
  exact wpAny_pyNext_range_end (I.ok.hd hc) st (by have:n<=i:=hg;omega) λh' eb=>⟨rfl,I.turned (t':=s.toks) (λb o hb e=>eb b o hb e) f0 f1 f3 f4 f5⟩
 self:=λ_ _ _ _ _ st h=>wpAny_pyIter_rangeiter st h
section
variable{X:Cx}{tg:Expr}
noncomputable def a4Z(K:FZ)(tl:TE):TI:=fun σ H R=>tl σ H λx H1=>∃a,x=.ref a/\(∃xs,SqL K H1 a xs)/\R (Itl K a) H1
noncomputable def c8Z(K:FZ)(tl:TE):TI:=fun σ H R=>tl σ H λx H1=>∃a,x=.ref a/\(∃xs,SqT K H1 a xs)/\R (Itt K a) H1
theorem aAZ{l:Expr}{tl:TE}(hl:PE X l tl):PI X tg l (a4Z X.K tl):=by
 intro pins s σ H R I h
 refine thn (hl pins s σ H _ I h) λv s1 ⟨x,H1,I1,r1,q1⟩=> ?_
 obtain⟨a,e,⟨xs,hq⟩,q⟩:=q1
 subst e
 cases r1
 obtain⟨its,rv,p,hz⟩:=I1.list hq
 refine wpAny_pyIter_list p.isList ?_
 refine⟨s1.heap.objs.size,[s1.heap.objs.size],_,_,H1,rfl,I1.kept (t':=s1.toks) λb o e=>gZ _ e,HS a _,⟨_,get?_push_size _ rfl,rfl,rfl⟩,λb hb=> ?_,q⟩
 have e:b=s1.heap.objs.size:=by simpa using hb
 subst e
 exact I1.fpOk (le_refl _) (I1.hok.fresh (le_refl _))
theorem coZ{l:Expr}{tl:TE}(hl:PE X l tl):PI X tg l (c8Z X.K tl):=by
 intro pins s σ H R I h
 refine thn (hl pins s σ H _ I h) λv s1 ⟨x,H1,I1,r1,q1⟩=> ?_
 obtain⟨a,e,⟨xs,hq⟩,q⟩:=q1
 subst e
 cases r1
 obtain⟨its,rv,p,hz⟩:=I1.tuple hq
 refine wpAny_pyIter_tuple (show s1.heap.IsTuple a its.toArray from p) ?_
 refine⟨s1.heap.objs.size,[s1.heap.objs.size],_,_,H1,rfl,I1.kept (t':=s1.toks) λb o e=>gZ _ e,FA a _,⟨_,get?_push_size _ rfl,rfl,rfl⟩,λb hb=> ?_,q⟩
 have e:b=s1.heap.objs.size:=by simpa using hb
 subst e
 exact I1.fpOk (le_refl _) (I1.hok.fresh (le_refl _))
theorem XH{pins:List (Addr×Obj)}{σ:St}{H:Hp}{s:Shared}{R:It->Hp->Prop}{E:Value->Shared->Prop}{lo hi:Int}{t u v:Tok}{tk:Nat}(I:Inv X pins σ H s)(h1: -(2^62)<=lo)(h2:lo<2^62)(h3: -(2^62)<=hi)(h4:hi<2^62)
  (q:R (Itr lo (hi - lo).toNat) H):wpAny (model X.prog X.w) X.A (pyIter (.ref s.heap.objs.size)) (PIE X pins σ tg R) E {s with heap:=s.heap.push {cls:=.type "range",data:=.fields #[.int lo t,.int hi u,.int 1 v]},toks:=tk}:=by
 refine wpAny_pyIter_range (IsRange.new ..) (small_one h1 h2 h3 h4) ?_
 have I1:Inv X pins σ H {s with heap:=s.heap.push {cls:=.type "range",data:=.fields #[.int lo t,.int hi u,.int 1 v]},toks:=tk}:=I.kept λb o e=>gZ _ e
 refine⟨(s.heap.push {cls:=.type "range",data:=.fields #[.int lo t,.int hi u,.int 1 v]}).objs.size,[(s.heap.push {cls:=.type "range",data:=.fields #[.int lo t,.int hi u,.int 1 v]}).objs.size],_,_,H,rfl,
  I1.kept (t':=tk) λb o e=>gZ _ e,PM _ lo (hi - lo).toNat, ?_,λb hb=> ?_,q⟩
 ·have e1:lo+((0:Nat):Int)*1=lo:=by simp
  have e2:(((hi - lo).toNat:Nat):Int) - ((0:Nat):Int)=Builtin.Range.rangeSize lo hi 1:=by rw[rangeSize_one];split<;>omega
  show IsRangeIter _ _ (lo+((0:Nat):Int)*1) ((((hi - lo).toNat:Nat):Int) - ((0:Nat):Int)) 1
  rw[e1,e2]
  exact get?_push_size _ rfl
 ·have e:b=(s.heap.push {cls:=.type "range",data:=.fields #[.int lo t,.int hi u,.int 1 v]}).objs.size:=by simpa using hb
  subst e
  exact I1.fpOk (le_refl _) (I1.hok.fresh (le_refl _))
noncomputable def drZ(ta:TA):TI:=fun σ H R=>ta σ H λvs H1=>∃j:Int,vs=[.int j]/\ -(2^62)<=j/\j<2^62/\R (Itr 0 j.toNat) H1
theorem L9{a:Expr}{ta:TA}{p pos:Pos}(hg:Gl X "range")(hm:X.mg "range"=none)(ha:PA X [a] ta)(hs:starEach [a] X.env=[(false,eval a X.env)]:=by rfl):PI X tg (.Call (.Name "range" p) [a] [] pos) (drZ ta):=by
 intro pins s σ H R I h
 refine Call_ (AW I hg hm boot_range (callWith_type1 (thn (ha pos pins s σ H _ I h) λus s1 ⟨vs,H1,I1,r1,q1⟩=> ?_) hs rfl))
 obtain⟨j,e,q1,q2,q⟩:=q1
 subst e
 cases r1 with
 |cons r rr=>
  cases rr
  obtain⟨t,rfl⟩:=r
  exact call_range_1 (XH I1 (by omega) (by omega) q1 q2 (by simpa using q))
noncomputable def d0Z(wi:TI)(g:TG)(tb:TS):TS:=λD σ H=>wi σ H λJ H1=>∃W:Nat->Nat->St->Hp->Prop,(∃m,W 0 m σ H1)/\∀i m σ H,W i m σ H->
 (J.stop i H/\D.nx σ H)\/(J.go i H/\∃N:St->Hp->Prop,(∀σ' H',N σ' H'->∃m',m'<m/\W (i+1) m' σ' H')/\∀x H',J.yld i H x H'->g x σ H' fun σ2 H2=>tb {D with nx:=N,ct:=N,bk:=D.nx} σ2 H2)
noncomputable def CB(fp:List Addr)(h:Heap):List (Addr×Obj):=fp.filterMap λb=>(h.get? b).map λo=>(b,o)
theorem V5{fp:List Addr}{h:Heap}{b:Addr}{o:Obj}(hb:b∈fp)(e:h.get? b=some o):(b,o)∈CB fp h:=mem_filterMap.mpr ⟨b,hb,by rw[e];rfl⟩
theorem VJ{fp:List Addr}{h:Heap}{p:Addr×Obj}(hp:p∈CB fp h):p.1∈fp/\h.get? p.1=some p.2:=by
 obtain⟨b,hb,e⟩:=mem_filterMap.mp hp
 cases q:h.get? b with
 |none=>rw[q]at e;cases e
 |some o=>
  rw[q]at e
  have e':(b,o)=p:=Option.some.inj e
  subst e'
  exact⟨hb,q⟩
theorem Inv.pinned{pins:List (Addr×Obj)}{σ:St}{H:Hp}{s:Shared}{fp:List Addr}(I:Inv X pins σ H s)(hf:∀b∈fp,QK X pins H b)(ho:∀b∈fp,∃o,s.heap.get? b=some o/\∀v,o.data≠ .cell v):Inv X (pins++CB fp s.heap) σ H s:=
 I.pins_of λp hp=>(mem_append.mp hp).elim (λz=>I.pin p (mem_append_right _ z)) λz=>by
  obtain⟨hb,e⟩:=VJ z
  obtain⟨f0,f1,f2,_⟩:=hf p.1 hb
  obtain⟨o,e',d⟩:=ho p.1 hb
  rw[e]at e';cases e'
  exact⟨e,f0,f1,f2,d⟩
theorem Inv.unpinned{pins pl:List (Addr×Obj)}{σ:St}{H:Hp}{s:Shared}(I:Inv X (pins++pl) σ H s):Inv X pins σ H s:=I.pins_of λp hp=>I.pin p (mem_append_right _ (mem_append_left _ hp))
theorem U0{iter:Expr}{body:List Stmt}{wi:TI}{g:TG}{tb:TS}{pos:Pos}(hp:PassesOwn (model X.prog X.w) X.A X.env X.xe)(hc:X.calm=true)(hi:PI X tg iter wi)(hg:PG X tg g)(hb:PSs X body tb)
  (hs:∀x,foldedSetIterable iter X.env x=pure x:=by intro _;rfl):PS X (.For tg iter body [] pos) (d0Z wi g tb):=by
 intro pins s σ H D I h
 refine wpAny_For (thn (hi pins s σ H _ I h) λv s1 h1=>thn h1 λitv s2 h2=> ?_) hs
 obtain⟨it,fp,tn,J,H2,e,I2,T,st2,f2,W,⟨m0,w0⟩,turn⟩:=h2
 subst e
 have stat:∀ {H':Hp},(∀b∈fp,H' b=none)->∀b∈fp,QK X pins H' b:=λhn b hb=>⟨hn b hb,(f2 b hb).2⟩
 refine codeAny_forLoop_any (λn s'=>∃i σ' H',Inv X pins σ' H' s'/\tn i s'.heap/\(∀b∈fp,H' b=none)/\W i n σ' H') ?_ m0 ⟨0,σ,H2,I2,st2,λb hb=>(f2 b hb).1,w0⟩
 rintro n s3 ⟨i,σ3,H3,I3,st3,fr3,w3⟩
 rcases turn i n σ3 H3 w3 with⟨stop,qn⟩|⟨go,N,hN,step⟩
 ·refine wpAny_passesOwn hp (thn (T.done X rfl rfl rfl hc i pins s3 σ3 H3 X.xe I3 (stat fr3) st3 stop) λr s4 ⟨hr,I4⟩=> ?_)
  subst hr
  exact wpAny_execs_nil ⟨σ3,H3,I4,qn⟩
 ·refine wpAny_passesOwn hp (thn (T.item X rfl rfl rfl hc i pins s3 σ3 H3 X.xe I3 (stat fr3) st3 go) λr s4 ⟨u,hr,h4⟩=> ?_)
  subst hr
  refine wpAny_passesOwn hp (thn h4 λ_ s5 ⟨x,H5,I5,r5,y5,st5,fr5⟩=> ?_)
  have I5':=I5.pinned (stat fr5) (T.obj _ _ st5)
  refine wpAny_passesOwn hp (thn (hg _ s5 σ3 H5 x u _ I5' r5 (step x H5 y5)) λ_ s6 ⟨σ6,H6,I6,q6⟩=> ?_)
  refine wpAny_passesOwn hp (thn (hb _ s6 σ6 H6 _ I6 q6) λf s7 q7=> ?_)
  have again:∀ {σ7:St} {H7:Hp},Inv X (pins++CB fp s5.heap) σ7 H7 s7->N σ7 H7->∃m,m<n/\∃i σ' H',Inv X pins σ' H' s7/\tn i s7.heap/\(∀b∈fp,H' b=none)/\W i m σ' H':=λ{σ7 H7} I7 n7=>by
   obtain⟨m',hm,w7⟩:=hN σ7 H7 n7
   refine⟨m',hm,i+1,σ7,H7,I7.unpinned,T.keep _ _ _ st5 λb hb o e=>(I7.pin (b,o) (mem_append_right _ (mem_append_right _ (V5 hb e)))).1,λb hb=> ?_,w7⟩
   obtain⟨o,e,d⟩:=T.obj _ _ st5 b hb
   exact(I7.pin (b,o) (mem_append_right _ (mem_append_right _ (V5 hb e)))).2.1
  cases f with
  |next=>obtain⟨σ7,H7,I7,n7⟩:=q7;exact again I7 n7
  |cont=>obtain⟨σ7,H7,I7,n7⟩:=q7;exact again I7 n7
  |brk=>obtain⟨σ7,H7,I7,q7⟩:=q7;exact⟨σ7,H7,I7.unpinned,q7⟩
  |ret v=>obtain⟨x7,σ7,H7,I7,r7,q7⟩:=q7;exact⟨x7,σ7,H7,I7.unpinned,r7,q7⟩
end
theorem BG{K:FZ}{a:Addr}{xs:List V}{g:TG}{tb:TS}{D:Ends}{σ:St}{H:Hp}(Pv:Nat->St->Hp->Prop)(h0:Pv 0 σ H)(hl:∀i σ H,i<=xs.length->Pv i σ H->SqL K H a xs)
  (hs:∀i x σ H,xs[i]? =some x->Pv i σ H->g x σ H fun σ2 H2=>tb {D with nx:=Pv (i+1),ct:=Pv (i+1),bk:=D.nx} σ2 H2)(hd:∀σ H,Pv xs.length σ H->D.nx σ H):
  ∃W:Nat->Nat->St->Hp->Prop,(∃m,W 0 m σ H)/\∀i m σ H,W i m σ H->
   ((Itl K a).stop i H/\D.nx σ H)\/((Itl K a).go i H/\∃N:St->Hp->Prop,(∀σ' H',N σ' H'->∃m',m'<m/\W (i+1) m' σ' H')/\∀x H',(Itl K a).yld i H x H'->g x σ H' fun σ2 H2=>tb {D with nx:=N,ct:=N,bk:=D.nx} σ2 H2):=by
 refine⟨λi m σ H=>m=xs.length - i/\i<=xs.length/\Pv i σ H,⟨xs.length,by simp,zero_le _,h0⟩, ?_⟩
 rintro i m σ H ⟨rfl,hi,p⟩
 have q:=hl i σ H hi p
 by_cases hlt:i<xs.length
 ·refine .inr ⟨⟨xs,xs[i],q,by simp[hlt]⟩,Pv (i+1),fun σ' H' p'=>⟨xs.length - (i+1),by omega,rfl,hlt,p'⟩,λx H' y=> ?_⟩
  obtain⟨e,y⟩:=y
  subst e
  exact hs i x σ _ (y xs q) p
 ·have e:i=xs.length:=by omega
  subst e
  exact .inl ⟨⟨xs,q,le_refl _⟩,hd σ H p⟩
theorem aEZ{K:FZ}{a:Addr}{xs:List V}{g:TG}{tb:TS}{D:Ends}{σ:St}{H:Hp}(Pv:Nat->St->Hp->Prop)(h0:Pv 0 σ H)(hl:∀i σ H,i<=xs.length->Pv i σ H->SqT K H a xs)
  (hs:∀i x σ H,xs[i]? =some x->Pv i σ H->g x σ H fun σ2 H2=>tb {D with nx:=Pv (i+1),ct:=Pv (i+1),bk:=D.nx} σ2 H2)(hd:∀σ H,Pv xs.length σ H->D.nx σ H):
  ∃W:Nat->Nat->St->Hp->Prop,(∃m,W 0 m σ H)/\∀i m σ H,W i m σ H->
   ((Itt K a).stop i H/\D.nx σ H)\/((Itt K a).go i H/\∃N:St->Hp->Prop,(∀σ' H',N σ' H'->∃m',m'<m/\W (i+1) m' σ' H')/\∀x H',(Itt K a).yld i H x H'->g x σ H' fun σ2 H2=>tb {D with nx:=N,ct:=N,bk:=D.nx} σ2 H2):=by
 refine⟨λi m σ H=>m=xs.length - i/\i<=xs.length/\Pv i σ H,⟨xs.length,by simp,zero_le _,h0⟩, ?_⟩
 rintro i m σ H ⟨rfl,hi,p⟩
 have q:=hl i σ H hi p
 by_cases hlt:i<xs.length
 ·refine .inr ⟨⟨xs,xs[i],q,by simp[hlt]⟩,Pv (i+1),fun σ' H' p'=>⟨xs.length - (i+1),by omega,rfl,hlt,p'⟩,λx H' y=> ?_⟩
  obtain⟨e,y⟩:=y
  subst e
  exact hs i x σ _ (y xs q) p
 ·have e:i=xs.length:=by omega
  subst e
  exact .inl ⟨⟨xs,q,le_refl _⟩,hd σ H p⟩
theorem Z2{lo:Int}{n:Nat}{g:TG}{tb:TS}{D:Ends}{σ:St}{H:Hp}(Pv:Nat->St->Hp->Prop)(h0:Pv 0 σ H)
  (hs:∀i σ H,i<n->Pv i σ H->g (.int (lo+i)) σ H fun σ2 H2=>tb {D with nx:=Pv (i+1),ct:=Pv (i+1),bk:=D.nx} σ2 H2)(hd:∀σ H,Pv n σ H->D.nx σ H):
  ∃W:Nat->Nat->St->Hp->Prop,(∃m,W 0 m σ H)/\∀i m σ H,W i m σ H->
   ((Itr lo n).stop i H/\D.nx σ H)\/((Itr lo n).go i H/\∃N:St->Hp->Prop,(∀σ' H',N σ' H'->∃m',m'<m/\W (i+1) m' σ' H')/\∀x H',(Itr lo n).yld i H x H'->g x σ H' fun σ2 H2=>tb {D with nx:=N,ct:=N,bk:=D.nx} σ2 H2):=by
 refine⟨λi m σ H=>m=n - i/\i<=n/\Pv i σ H,⟨n,by simp,zero_le _,h0⟩, ?_⟩
 rintro i m σ H ⟨rfl,hi,p⟩
 by_cases hlt:i<n
 ·refine .inr ⟨hlt,Pv (i+1),fun σ' H' p'=>⟨n - (i+1),by omega,rfl,hlt,p'⟩,λx H' y=> ?_⟩
  obtain⟨e,y⟩:=y
  subst e y
  exact hs i σ _ hlt p
 ·have e:i=n:=by omega
  subst e
  exact .inl ⟨le_refl _,hd σ H p⟩
noncomputable abbrev R2:=V->V->Hp->VK->Prop
noncomputable def OpR(X:Cx)(f:Value->Value->Sem Value)(r:R2):Prop:=
 ∀(pins:List (Addr×Obj)) (s:Shared) (σ:St) (H:Hp) (x y:V) (v u:Value) (Q:VK),Inv X pins σ H s->RelV x v->RelV y u->r x y H Q->
  wpAny (model X.prog X.w) X.A (f v u) (EP X pins σ Q) X.xe s
noncomputable def UnR(X:Cx)(f:Value->Sem Value)(r:V->Hp->VK->Prop):Prop:=
 ∀(pins:List (Addr×Obj)) (s:Shared) (σ:St) (H:Hp) (x:V) (v:Value) (Q:VK),Inv X pins σ H s->RelV x v->r x H Q->
  wpAny (model X.prog X.w) X.A (f v) (EP X pins σ Q) X.xe s
noncomputable def CallR(X:Cx)(f:Value)(r:List V->Hp->VK->Prop):Prop:=
 ∀(pins:List (Addr×Obj)) (s:Shared) (σ:St) (H:Hp) (xs:List V) (us:List Value) (Q:VK),Inv X pins σ H s->Vals xs us->r xs H Q->
  wpAny (model X.prog X.w) X.A (call f us) (EP X pins σ Q) X.xe s
noncomputable def dRZ(X:Cx)(r:V->Hp->(Bool->Hp->Prop)->Prop):Prop:=
 ∀(pins:List (Addr×Obj)) (s:Shared) (σ:St) (H:Hp) (x:V) (v:Value) (Q:Bool->Hp->Prop),Inv X pins σ H s->RelV x v->r x H Q->
  wpAny (model X.prog X.w) X.A (truthy v) (TP X pins σ Q) X.xe s
noncomputable def tOp(r:R2)(ta tb:TE):TE:=fun σ H Q=>ta σ H λx H1=>tb σ H1 λy H2=>r x y H2 Q
noncomputable def tUn(r:V->Hp->VK->Prop)(ta:TE):TE:=fun σ H Q=>ta σ H λx H1=>r x H1 Q
inductive rI (C:Int->Int->Prop) (g:Int->Int->V) (x:V) (y:V) (H:Hp) (Q:VK):Prop
 |mk:∀i j,(x=.int i)->(y=.int j)->(C i j)->(Q (g i j) H)->rI C g x y H Q
inductive rI0 (g:Int->Int->V) (x:V) (y:V) (H:Hp) (Q:VK):Prop
 |mk:∀i j,(x=.int i)->(y=.int j)->(Q (g i j) H)->rI0 g x y H Q
inductive rU (g:Int->V) (x:V) (H:Hp) (Q:VK):Prop
 |mk:∀i,(x=.int i)->(Q (g i) H)->rU g x H Q
section
variable{X:Cx}{a b c:Expr}{ta tb tc:TE}{pos:Pos}
theorem bxZ(ha:PE X a ta)(hb:PE X b tb){pins:List (Addr×Obj)}{s:Shared}{σ:St}{H:Hp}{R:V->V->Hp->Prop}(I:Inv X pins σ H s)
  (h:ta σ H λx H1=>tb σ H1 λy H2=>R x y H2){Q:Value->Shared->Prop}{f:Value->Value->Sem Value}
  (hf:∀v u s2 x y H2,Inv X pins σ H2 s2->RelV x v->RelV y u->R x y H2->wpAny (model X.prog X.w) X.A (f v u) Q X.xe s2):
  wpAny (model X.prog X.w) X.A (eval a X.env) (λv s₁=>wpAny (model X.prog X.w) X.A (eval b X.env) (λu s₂=>wpAny (model X.prog X.w) X.A (f v u) Q X.xe s₂) X.xe s₁) X.xe s:=by
 refine thn (ha pins s σ H _ I h) λv s1 ⟨x,H1,I1,r1,q1⟩=> ?_
 refine thn (hb pins s1 σ H1 _ I1 q1) λu s2 ⟨y,H2,I2,r2,q2⟩=> ?_
 exact hf v u s2 x y H2 I2 r1 r2 q2
theorem B4{op:Operator}{r:R2}(ho:OpR X (binaryOp op) r)(ha:PE X a ta)(hb:PE X b tb):PE X (.BinOp a op b pos) (tOp r ta tb):=by
 intro pins s σ H Q I h
 exact wpAny_BinOp (bxZ ha hb I h λv u s2 x y H2 I2 rx ry q=>ho pins s2 σ H2 x y v u Q I2 rx ry q)
theorem J0{op:UnaryOp}{r:V->Hp->VK->Prop}(ho:UnR X (unaryOp op) r)(ha:PE X a ta):PE X (.UnaryOp op a pos) (tUn r ta):=by
 intro pins s σ H Q I h
 exact UnaryOp_ (thn (ha pins s σ H _ I h) λv s1 ⟨x,H1,I1,r1,q1⟩=>ho pins s1 σ H1 x v Q I1 r1 q1)
theorem opI{f:Value->Value->Sem Value}{C:Int->Int->Prop}{g:Int->Int->Int}
  (rule:∀(i j:Int) (t u:Tok) (s:Shared) (Q:Value->Shared->Prop) (E:Value->Shared->Prop),C i j->Q (.int (g i j) s.toks) {s with toks:=s.toks+1}->wpAny (model X.prog X.w) X.A (f (.int i t) (.int j u)) Q E s):
  OpR X f (rI C λi j=> .int (g i j)):=by
 intro pins s σ H x y v u Q I rx ry h
 obtain⟨i,j,rfl,rfl,hc,q⟩:=h
 obtain⟨t,rfl⟩:=rx
 obtain⟨t',rfl⟩:=ry
 exact rule i j t t' s _ _ hc ⟨.int (g i j),H,I.tok _,⟨_,rfl⟩,q⟩
theorem cTZ{f:Value->Value->Sem Value}{g:Int->Int->Int}
  (rule:∀(i j:Int) (t u:Tok) (s:Shared) (Q:Value->Shared->Prop) (E:Value->Shared->Prop),Q (.int (g i j) s.toks) {s with toks:=s.toks+1}->wpAny (model X.prog X.w) X.A (f (.int i t) (.int j u)) Q E s):
  OpR X f (rI0 λi j=> .int (g i j)):=by
 intro pins s σ H x y v u Q I rx ry h
 obtain⟨i,j,rfl,rfl,q⟩:=h
 obtain⟨t,rfl⟩:=rx
 obtain⟨t',rfl⟩:=ry
 exact rule i j t t' s _ _ ⟨.int (g i j),H,I.tok _,⟨_,rfl⟩,q⟩
theorem bFZ{f:Value->Value->Sem Value}{g:Int->Int->Bool}
  (rule:∀(i j:Int) (t u:Tok) (s:Shared) (Q:Value->Shared->Prop) (E:Value->Shared->Prop),Q (.bool (g i j)) s->wpAny (model X.prog X.w) X.A (f (.int i t) (.int j u)) Q E s):
  OpR X f (rI0 λi j=> .bl (g i j)):=by
 intro pins s σ H x y v u Q I rx ry h
 obtain⟨i,j,rfl,rfl,q⟩:=h
 obtain⟨t,rfl⟩:=rx
 obtain⟨t',rfl⟩:=ry
 exact rule i j t t' s _ _ ⟨.bl (g i j),H,I,rfl,q⟩
noncomputable def dTZ(i j:Int):Prop:=0<=j/\j<=1000000/\i.natAbs<2^64
noncomputable def CMul(i j:Int):Prop:=(-(2^64)<i/\i<2^64)\/(-(2^64)<j/\j<2^64)
theorem CMul.ok{i j:Int}(h:CMul i j):IntMulOk i j:=by
 rcases h with⟨h1,h2⟩|⟨h1,h2⟩
 ·exact .of_left (intBits_le_64 h1 h2)
 ·exact .of_right (intBits_le_64 h1 h2)
theorem op_add:OpR X (binaryOp .Add) (rI0 λi j=> .int (i+j)):=cTZ λ_ _ _ _ _ _ _ q=>add_int q
theorem P2:OpR X (binaryOp .Sub) (rI0 λi j=> .int (i - j)):=cTZ λ_ _ _ _ _ _ _ q=>sub_int q
theorem op_mul:OpR X (binaryOp .Mult) (rI CMul λi j=> .int (i*j)):=opI λ_ _ _ _ _ _ _ hc q=>mul_int q hc.ok
theorem D7:OpR X (binaryOp .Mod) (rI (λ_ j=>0<j) λi j=> .int (i%j)):=opI λi j _ _ _ _ _ hc q=>by
 have h1:(0:Int)<j:=hc
 exact mod_int' (by omega) (by rw[Int.fmod_eq_emod_of_nonneg i (by omega)];exact q)
theorem WJ:OpR X (binaryOp .Pow) (rI dTZ λi j=> .int (i^j.toNat)):=opI λ_ _ _ _ _ _ _ hc q=>pow_int_small hc.1 hc.2.1 hc.2.2 q
theorem unI{f:Value->Sem Value}{g:Int->Int}
  (rule:∀(i:Int) (t:Tok) (s:Shared) (Q:Value->Shared->Prop) (E:Value->Shared->Prop),Q (.int (g i) s.toks) {s with toks:=s.toks+1}->wpAny (model X.prog X.w) X.A (f (.int i t)) Q E s):
  UnR X f (rU λi=> .int (g i)):=by
 intro pins s σ H x v Q I rx h
 obtain⟨i,rfl,q⟩:=h
 obtain⟨t,rfl⟩:=rx
 exact rule i t s _ _ ⟨.int (g i),H,I.tok _,⟨_,rfl⟩,q⟩
theorem E4:UnR X (unaryOp .USub) (rU λi=> .int (-i)):=unI λ_ _ _ _ _ q=>neg_int q
end
noncomputable def cBZ:V->V->Bool
 | .non,.non=>true| .non,.int _=>true| .int _,.non=>true| .non,.bl _=>true| .bl _,.non=>true| .non,.str _=>true| .str _,.non=>true
 | .int _,.int _=>true| .bl _,.bl _=>true| .str _,.str _=>true| .byt _,.byt _=>true
 | .int _,.str _=>true| .str _,.int _=>true| .bl _,.str _=>true| .str _,.bl _=>true
 |_,_=>false
inductive rEq (x:V) (y:V) (H:Hp) (Q:VK):Prop
 |mk:(cBZ x y=true)->(Q (.bl (decide (x=y))) H)->rEq x y H Q
inductive rNe (x:V) (y:V) (H:Hp) (Q:VK):Prop
 |mk:(cBZ x y=true)->(Q (.bl (!decide (x=y))) H)->rNe x y H Q
theorem SC{i j:Int}:decide (V.int i=V.int j)=(i==j):=by
 rw[Bool.eq_iff_iff]
 simp
theorem XA{i j:Bool}:decide (V.bl i=V.bl j)=(i==j):=by
 rw[Bool.eq_iff_iff]
 simp
theorem SU{i j:Str}:decide (V.str i=V.str j)=(i==j):=by
 rw[Bool.eq_iff_iff]
 simp
theorem SQ{i j:Array UInt8}:decide (V.byt i=V.byt j)=(i.toList==j.toList):=by
 rw[Bool.eq_iff_iff]
 cases i
 cases j
 simp
section
variable{X:Cx}{a b c:Expr}{ta tb tc:TE}{pos:Pos}
theorem E6{pins:List (Addr×Obj)}{σ:St}{H:Hp}{s:Shared}{Q:VK}{k k':Bool}(I:Inv X pins σ H s)(q:Q (.bl k) H)(e:k=k'):EP X pins σ Q (.bool k') s:=by
 subst e
 exact⟨.bl k,H,I,rfl,q⟩
theorem op_eq:OpR X (compareOp .Eq) rEq:=by
 intro pins s σ H x y v u Q I rx ry h
 obtain⟨hs,q⟩:=h
 cases x with
 |non=>
  cases rx
  cases y with
  |non=>cases ry;exact PySem.EqNone.eq_none_none (E6 I q (by simp))
  |bl j=>cases ry;exact PySem.EqNone.eq_none_bool (E6 I q (by simp))
  |int j=>obtain⟨t',rfl⟩:=ry;exact PySem.EqNone.eq_none_int (E6 I q (by simp))
  |str j=>obtain⟨t',rfl⟩:=ry;exact PySem.EqNone.eq_none_str (E6 I q (by simp))
  |_=>exact absurd (show false=true from hs) nZ
 |bl i=>
  cases rx
  cases y with
  |non=>cases ry;exact PySem.EqNone.eq_bool_none (E6 I q (by simp))
  |bl j=>cases ry;exact eq_bool (E6 I q XA)
  |str j=>obtain⟨t',rfl⟩:=ry;exact PySem.EqMixed.eq_bool_str (E6 I q (by simp))
  |_=>exact absurd (show false=true from hs) nZ
 |int i=>
  obtain⟨t,rfl⟩:=rx
  cases y with
  |non=>cases ry;exact PySem.EqNone.eq_int_none (E6 I q (by simp))
  |int j=>obtain⟨t',rfl⟩:=ry;exact eq_int (E6 I q SC)
  |str j=>obtain⟨t',rfl⟩:=ry;exact PySem.EqMixed.eq_int_str (E6 I q (by simp))
  |_=>exact absurd (show false=true from hs) nZ
 |str i=>
  obtain⟨t,rfl⟩:=rx
  cases y with
  |non=>cases ry;exact PySem.EqNone.eq_str_none (E6 I q (by simp))
  |bl j=>cases ry;exact PySem.EqMixed.eq_str_bool (E6 I q (by simp))
  |int j=>obtain⟨t',rfl⟩:=ry;exact PySem.EqMixed.eq_str_int (E6 I q (by simp))
  |str j=>obtain⟨t',rfl⟩:=ry;exact eq_str (E6 I q SU)
  |_=>exact absurd (show false=true from hs) nZ
 |byt i=>
  obtain⟨t,rfl⟩:=rx
  cases y with
  |byt j=>obtain⟨t',rfl⟩:=ry;exact PySem.W.eq_bytes (E6 I q SQ)
  |_=>exact absurd (show false=true from hs) nZ
 |_=>cases y<;>exact absurd (show false=true from hs) nZ
theorem op_ne:OpR X (compareOp .NotEq) rNe:=by
 intro pins s σ H x y v u Q I rx ry h
 obtain⟨hs,q⟩:=h
 cases x with
 |non=>
  cases rx
  cases y with
  |non=>cases ry;exact PySem.EqNone.ne_none_none (E6 I q (by simp))
  |bl j=>cases ry;exact PySem.EqNone.ne_none_bool (E6 I q (by simp))
  |int j=>obtain⟨t',rfl⟩:=ry;exact PySem.EqNone.ne_none_int (E6 I q (by simp))
  |str j=>obtain⟨t',rfl⟩:=ry;exact PySem.EqNone.ne_none_str (E6 I q (by simp))
  |_=>exact absurd (show false=true from hs) nZ
 |bl i=>
  cases rx
  cases y with
  |non=>cases ry;exact PySem.EqNone.ne_bool_none (E6 I q (by simp))
  |bl j=>cases ry;exact ne_bool (E6 I q (congrArg not XA))
  |str j=>obtain⟨t',rfl⟩:=ry;exact PySem.EqMixed.ne_bool_str (E6 I q (by simp))
  |_=>exact absurd (show false=true from hs) nZ
 |int i=>
  obtain⟨t,rfl⟩:=rx
  cases y with
  |non=>cases ry;exact PySem.EqNone.ne_int_none (E6 I q (by simp))
  |int j=>obtain⟨t',rfl⟩:=ry;exact ne_int (E6 I q (congrArg not SC))
  |str j=>obtain⟨t',rfl⟩:=ry;exact PySem.EqMixed.ne_int_str (E6 I q (by simp))
  |_=>exact absurd (show false=true from hs) nZ
 |str i=>
  obtain⟨t,rfl⟩:=rx
  cases y with
  |non=>cases ry;exact PySem.EqNone.ne_str_none (E6 I q (by simp))
  |bl j=>cases ry;exact PySem.EqMixed.ne_str_bool (E6 I q (by simp))
  |int j=>obtain⟨t',rfl⟩:=ry;exact PySem.EqMixed.ne_str_int (E6 I q (by simp))
  |str j=>obtain⟨t',rfl⟩:=ry;exact ne_str (E6 I q (congrArg not SU))
  |_=>exact absurd (show false=true from hs) nZ
 |byt i=>
  obtain⟨t,rfl⟩:=rx
  cases y with
  |byt j=>obtain⟨t',rfl⟩:=ry;exact PySem.W.ne_bytes (E6 I q (congrArg not SQ))
  |_=>exact absurd (show false=true from hs) nZ
 |_=>cases y<;>exact absurd (show false=true from hs) nZ
theorem SJ:OpR X (compareOp .Lt) (rI0 λi j=> .bl (decide (i<j))):=bFZ λ_ _ _ _ _ _ _ q=>lt_int q
theorem cIZ:OpR X (compareOp .Gt) (rI0 λi j=> .bl (decide (j<i))):=bFZ λ_ _ _ _ _ _ _ q=>gt_int q
theorem bbZ:OpR X (compareOp .GtE) (rI0 λi j=> .bl (decide (j<=i))):=bFZ λ_ _ _ _ _ _ _ q=>ge_int q
theorem op_in_str:OpR X (compareOp .In) (λx y H Q=>∃i j,x=.str i/\y=.str j/\Q (.bl (!(Builtin.Str.occurrences j i 0 j.length 1).isEmpty)) H):=by
 intro pins s σ H x y v u Q I rx ry h
 obtain⟨i,j,rfl,rfl,q⟩:=h
 obtain⟨t,rfl⟩:=rx
 obtain⟨t',rfl⟩:=ry
 exact in_str (E6 I q rfl)
theorem RN:OpR X (compareOp .Is) (λx y H Q=>y=.non/\Q (.bl (decide (x=.non))) H):=by
 intro pins s σ H x y v u Q I rx ry h
 obtain⟨rfl,q⟩:=h
 cases ry
 refine is_none_gen (E6 I q ?_)
 cases x<;>first
  |(cases rx;rfl)
  |(obtain⟨t,rfl⟩:=rx;rfl)
theorem EA:OpR X (compareOp .IsNot) (λx y H Q=>y=.non/\Q (.bl (!decide (x=.non))) H):=by
 intro pins s σ H x y v u Q I rx ry h
 obtain⟨rfl,q⟩:=h
 cases ry
 refine isnot_none_gen (E6 I q ?_)
 cases x<;>first
  |(cases rx;rfl)
  |(obtain⟨t,rfl⟩:=rx;rfl)
theorem OpR.or{f:Value->Value->Sem Value}{r r':R2}(h:OpR X f r)(h':OpR X f r'):OpR X f (λx y H Q=>r x y H Q\/r' x y H Q):=by
 intro pins s σ H x y v u Q I rx ry q
 rcases q with q|q
 ·exact h pins s σ H x y v u Q I rx ry q
 ·exact h' pins s σ H x y v u Q I rx ry q
theorem N2{op:CmpOp}{r:R2}(ho:OpR X (compareOp op) r)(ha:PE X a ta)(hb:PE X b tb)(hm:behindInMarks op b=false):PE X (.Compare a [op] [b] pos) (tOp r ta tb):=by
 intro pins s σ H Q I h
 exact wpAny_Compare1 (bxZ ha hb I h λv u s2 x y H2 I2 rx ry q=>ho pins s2 σ H2 x y v u Q I2 rx ry q) hm
inductive tTestW (Q:Bool->Hp->Prop) (x:V) (H':Hp):Prop
 |mk:∀k,(x=.bl k)->(Q k H')->tTestW Q x H'
noncomputable def dkZ(t:TE):TT:=fun σ H Q=>t σ H λx H'=>tTestW Q x H'
theorem B2{op:CmpOp}{r:R2}(ho:OpR X (compareOp op) r)(ha:PE X a ta)(hb:PE X b tb)(hm:behindInMarks op b=false):PT X (.Compare a [op] [b] pos) (dkZ (tOp r ta tb)):=by
 intro pins s σ H Q I h
 refine wpAny_isTrue_Compare1 (thn (ha pins s σ H _ I h) λv s1 ⟨x,H1,I1,r1,q1⟩=>thn (hb pins s1 σ H1 _ I1 q1) λu s2 ⟨y,H2,I2,r2,q2⟩=>
  thn (ho pins s2 σ H2 x y v u _ I2 r1 r2 q2) λc s3 ⟨z,H3,I3,r3,k,e,q3⟩=> ?_) hm
 subst e
 cases r3
 exact wpAny_truthy_bool ⟨H3,I3,q3⟩
noncomputable def bGZ(K:FZ)(x:V)(H:Hp)(k:Bool):Prop:=
 match x with
 | .non=>k=false
 | .bl b=>k=b
 | .int i=>k=(i !=0)
 | .str y=>y.length<=sizeLine/\k=((y.length:Int) !=0)
 | .byt y=>y.size<=sizeLine/\k=((y.size:Int) !=0)
 | .ref p=>(∃xs,SqL K H p xs/\k= !xs.isEmpty)\/(∃xs,SqT K H p xs/\k= !xs.isEmpty)\/∃kvs,H p=some (.dK kvs)/\k= !kvs.isEmpty
 |_=>False
theorem QV{κ:Type}{kvs:List (κ×V)}{vs:List (κ×Value)}(r:KV kvs vs):(!vs.isEmpty)= !kvs.isEmpty:=by
 cases r<;>rfl
theorem ES{xs:List V}{its:List Value}(r:Vals xs its):(!its.toArray.isEmpty)= !xs.isEmpty:=by
 cases r<;>simp
theorem CY:(sizeLine:Nat)<2^63:=by rw[sizeLine_eq];decide
theorem b2Z:dRZ X (λx H Q=>∃k,bGZ X.K x H k/\Q k H):=by
 intro pins s σ H x v Q I rx h
 obtain⟨k,e,q⟩:=h
 have hl:=CY
 have hs:sizeLine=16777216:=sizeLine_eq
 cases x with
 |non=>
  cases rx
  have e':k=false:=e
  subst e'
  exact truthy_none ⟨H,I,q⟩
 |bl b=>
  cases rx
  have e':k=b:=e
  subst e'
  exact wpAny_truthy_bool ⟨H,I,q⟩
 |int i=>
  obtain⟨t,rfl⟩:=rx
  have e':k=(i !=0):=e
  subst e'
  exact PySem.P.truthy_int ⟨H,I,q⟩
 |str y=>
  obtain⟨t,rfl⟩:=rx
  obtain⟨hy,e'⟩:y.length<=sizeLine/\k=((y.length:Int) !=0):=e
  subst e'
  exact PySem.P.truthy_str (by omega) ⟨H,I.tok _,q⟩
 |byt y=>
  obtain⟨t,rfl⟩:=rx
  obtain⟨hy,e'⟩:y.size<=sizeLine/\k=((y.size:Int) !=0):=e
  subst e'
  exact PySem.W.truthy_bytes (by omega) ⟨H,I.tok _,q⟩
 |ref p=>
  cases rx
  have e':(∃xs,SqL X.K H p xs/\k= !xs.isEmpty)\/(∃xs,SqT X.K H p xs/\k= !xs.isEmpty)\/∃kvs,H p=some (.dK kvs)/\k= !kvs.isEmpty:=e
  rcases e' with⟨xs,hx,e'⟩|⟨xs,hx,e'⟩|⟨kvs,hx,e'⟩
  ·subst e'
   obtain⟨its,r,pl,hz⟩:=I.list hx
   have hlen:=r.length
   exact wpAny_truthy_list pl.isList (by simp only[size_toArray];omega) ⟨H,I.tok _,by rw[ES r];exact q⟩
  ·subst e'
   obtain⟨its,r,pl,hz⟩:=I.tuple hx
   have hlen:=r.length
   exact truthy_tuple pl (by simp only[size_toArray];omega) ⟨H,I.tok _,by rw[ES r];exact q⟩
  ·subst e'
   obtain⟨hz,hS,vs,r,m⟩:kvs.length<=sizeLine/\(p==sysModules)=false/\∃vs,KV kvs vs/\s.heap.DictOf (L7 X.prog X.w) p vs:=I.hok p _ hx
   have hlen:kvs.length=vs.length:=Paired.length r
   exact wpAny_truthy_dict hS m (by omega) ⟨H,I.tok _,by rw[QV r];exact q⟩
 |_=>exact(show False from e).elim
theorem WL(ha:PE X a ta)(he:∀whole,isTrue a X.env whole=(do let v<-whole;standAt a.pos;holding [v] (truthy v))):
  PT X a (fun σ H Q=>ta σ H λx H'=>∃k,bGZ X.K x H' k/\Q k H'):=by
 intro pins s σ H Q I h
 exact isTrue_plain (thn (ha pins s σ H _ I h) λv s1 ⟨x,H1,I1,r1,q1⟩=>b2Z pins s1 σ H1 x v Q I1 r1 q1) (he _)
theorem op_add_str:OpR X (binaryOp .Add) (λx y H Q=>∃i j,x=.str i/\y=.str j/\i.length+j.length<=sizeLine/\Q (.str (i++j)) H):=by
 intro pins s σ H x y v u Q I rx ry h
 obtain⟨i,j,rfl,rfl,hz,q⟩:=h
 obtain⟨t,rfl⟩:=rx
 obtain⟨t',rfl⟩:=ry
 exact add_str (λt' tk=>⟨.str (i++j),H,I.tok _,⟨_,rfl⟩,q⟩) hz
theorem BA{x:V}{us:List Value}(r:Vals [x] us):∃u,us=[u]/\RelV x u:=by
 cases r with
 |cons r1 r2=>cases r2;exact⟨_,rfl,r1⟩
theorem TJ{x y:V}{us:List Value}(r:Vals [x,y] us):∃u w',us=[u,w']/\RelV x u/\RelV y w':=by
 cases r with
 |cons r1 r2=>
  cases r2 with
  |cons r3 r4=>cases r4;exact⟨_,_,rfl,r1,r3⟩
theorem YK:CallR X (.builtin "abs") (λxs H Q=>∃i,xs=[.int i]/\Q (.int (if i<0 then -i else i)) H):=by
 intro pins s σ H xs us Q I r h
 obtain⟨i,rfl,q⟩:=h
 obtain⟨u,rfl,t,rfl⟩:=BA r
 exact call_abs_int λu tk=>⟨.int (if i<0 then -i else i),H,I.tok _,⟨_,rfl⟩,q⟩
theorem UV(hc:X.calm=true):CallR X (.builtin "max") (λxs H Q=>∃i j,xs=[.int i,.int j]/\Q (.int (if j>i then j else i)) H):=by
 intro pins s σ H xs us Q I r h
 obtain⟨i,j,rfl,q⟩:=h
 obtain⟨u,w',rfl,⟨t,rfl⟩,⟨t',rfl⟩⟩:=TJ r
 refine max_two_ints (I.ok.hd hc) λh' tk k=>⟨_,H,I.kept k, ?_,q⟩
 by_cases hj:j>i
 ·rw[if_pos hj,if_pos hj];exact⟨_,rfl⟩
 ·rw[if_neg hj,if_neg hj];exact⟨_,rfl⟩
theorem VQ:CallR X (.type "int") (λxs H Q=>(∃i,xs=[.int i]/\Q (.int i) H)\/∃k,xs=[.bl k]/\Q (.int (if k then 1 else 0)) H):=by
 intro pins s σ H xs us Q I r h
 rcases h with⟨i,rfl,q⟩|⟨k,rfl,q⟩
 ·obtain⟨u,rfl,t,rfl⟩:=BA r
  exact call_int_int ⟨.int i,H,I,⟨_,rfl⟩,q⟩
 ·obtain⟨u,rfl,r1⟩:=BA r
  cases r1
  exact call_int_bool ⟨.int (if k then 1 else 0),H,I.tok _,⟨_,rfl⟩,q⟩
noncomputable def bHZ(K:FZ)(x:V)(H:Hp)(n:Nat):Prop:=
 match x with
 | .str y=>y.length<=sizeLine/\n=y.length
 | .byt y=>y.size<=sizeLine/\n=y.size
 | .ref p=>(∃xs,SqL K H p xs/\n=xs.length)\/∃xs,SqT K H p xs/\n=xs.length
 |_=>False
inductive rLen (K:FZ) (xs:List V) (H:Hp) (Q:VK):Prop
 |mk:∀x n,(xs=[x])->(bHZ K x H n)->(Q (.int n) H)->rLen K xs H Q
theorem WX:CallR X (.builtin "len") (rLen X.K):=by
 intro pins s σ H xs us Q I r h
 obtain⟨x,n,rfl,e,q⟩:=h
 obtain⟨u,rfl,rx⟩:=BA r
 have hl:=CY
 have hs:sizeLine=16777216:=sizeLine_eq
 cases x with
 |str y=>
  obtain⟨t,rfl⟩:=rx
  obtain⟨hy,e'⟩:y.length<=sizeLine/\n=y.length:=e
  subst e'
  exact len_str (by omega) ⟨.int _,H,I.tok _,⟨_,rfl⟩,q⟩
 |byt y=>
  obtain⟨t,rfl⟩:=rx
  obtain⟨hy,e'⟩:y.size<=sizeLine/\n=y.size:=e
  subst e'
  exact PySem.W.len_bytes (by omega) ⟨.int _,H,I.tok _,⟨_,rfl⟩,q⟩
 |ref p=>
  cases rx
  have e':(∃xs,SqL X.K H p xs/\n=xs.length)\/∃xs,SqT X.K H p xs/\n=xs.length:=e
  rcases e' with⟨xs,hx,e'⟩|⟨xs,hx,e'⟩
  ·subst e'
   obtain⟨its,r',pl,hz⟩:=I.list hx
   have hlen:=r'.length
   exact Calls.call_len_list pl.isList (by simp only[size_toArray];omega) ⟨.int xs.length,H,I.tok _,⟨_,by simp only[size_toArray];rw[hlen]⟩,q⟩
  ·subst e'
   obtain⟨its,r',pl,hz⟩:=I.tuple hx
   have hlen:=r'.length
   exact len_tuple pl (by simp only[size_toArray];omega) ⟨.int xs.length,H,I.tok _,⟨_,by simp only[size_toArray];rw[hlen]⟩,q⟩
 |_=>exact(show False from e).elim
end
structure ObjM (h:Heap) (x dx C:Addr) (mA:Str->Option Value):Prop where
 obj:h.get? x=some (instObj C dx)
 ns:h.Ns1 dx mA
 ne:dx≠x
theorem UY{h:Heap}{dx:Addr}{mA:Str->Option Value}(n:h.Ns1 dx mA):∃od,h.get? dx=some od/\∀name,lookIn name od=some (mA name):=by
 obtain⟨o,es,ep,ho,hd,hk,_,hm⟩:=n
 refine⟨o,ho,λname=> ?_⟩
 have e:=hm name
 unfold nsFind findBy at e
 rw[<-Array.find?_toList]at e
 unfold lookIn
 rw[hd]
 dsimp only
 split
 ·rename_i y q
  rw[q]at e
  exact congrArg some e
 ·rename_i q
  rw[q]at e
  have a:es.toList.any (·.refKey)=false:=by
   rw[List.any_eq_false]
   intro y hy
   obtain⟨z,t,hkey⟩:=hk y (Array.mem_toList_iff.mp hy)
   simp[DictEntry.refKey,hkey]
  have a':¬es.toList.any (·.refKey)=true:=by rw[a];exact nZ
  rw[if_neg a']
  exact congrArg some e
theorem ObjM.look{h:Heap}{x dx C:Addr}{mA:Str->Option Value}(I:ObjM h x dx C mA):∃od,PySem.W.InstAt h x (instObj C dx) C (some od)/\∀name,lookIn name od=some (mA name):=
 let⟨od,ho,hl⟩:=UY I.ns
 ⟨od,⟨I.obj,rfl,rfl,ho⟩,hl⟩
section
variable{prog:Program}{w:World}{A:Around}{E:Value->Shared->Prop}{s:Shared}{K:FZ}{x dx C f:Addr}{mA:Str->Option Value}{name:Str}{v:Value}
theorem aIZ{expr:Bool}{Q:Value->Shared->Prop}(X:K.In s.heap)(I:ObjM s.heap x dx C mA)(hg:plainGet K C name=true)(hh:PySem.W.hasDictIn K C=true)
  (ha:findIn K (.ref C) name=some none)(hv:mA name=some v)(hv':PySem.W.handedIn v=true)(h:Q v {s with toks:=s.toks+1}):
  wpAny (model prog w) A (getAttr (.ref x) name expr) Q E s:=by
 obtain⟨od,J,hl⟩:=I.look
 exact PySem.W.get_value X J (PySem.W.plainGet_of hg).1 (PySem.W.findObj_own hh ha rfl (by rw[hl,hv])) hv' h
theorem ZB{pl:Sem Bool}{Q:Value×List Value->Shared->Prop}(X:K.In s.heap)(I:ObjM s.heap x dx C mA)(hg:plainGet K C name=true)
  (hf:findIn K (.ref C) name=some (some (.ref f)))(ht:isFn K (.ref f)=true)(hv:mA name=none)(h:Q (.ref f,[.ref x]) s):
  wpAny (model prog w) A (getMethod (.ref x) name pl) Q E s:=by
 obtain⟨od,J,hl⟩:=I.look
 exact PySem.W.method_fn X J (PySem.W.plainGet_of hg).1 (PySem.W.plainGet_of hg).2 hf (beq_iff_eq.mp ht) (by show(lookIn name od).map (·.isSome)=some false;rw[hl,hv];rfl) h
theorem adZ{ns:List Str}{Q:Unit->Shared->Prop}(X:K.In s.heap)(I:ObjM s.heap x dx C mA)
  (hs:findIn K (.ref C) "__setattr__"=some (some (.builtin "object.__setattr__")))(hp:PySem.W.plainOver K C=true)(ht:PySem.W.takerIn K C name=some none)(hh:PySem.W.hasDictIn K C=true)
  (hw:PySem.Within mA ns)(hsz:ns.length<=sizeLine)
  (h:∀h',ObjM h' x dx C (λy=>if y=name then some v else mA y)->Heap.SameBut dx s.heap h'->Q () {s with heap:=h',toks:=s.toks+2}):
  wpAny (model prog w) A (setAttr (.ref x) name v) Q E s:=by
 obtain⟨od,J,hl⟩:=I.look
 refine PySem.W.set_plain X J hs (PySem.W.osa_open (s:={s with toks:=s.toks+1}) (r:=none) X J hp ht λb=> ?_)
 obtain⟨cd,hc,hd'⟩:=PySem.W.any_some hh
 have hx:s.heap.get? x=some ⟨.ref C,some dx,.plain, #[]⟩:=I.obj
 refine bZ (pZ (bZ (bZ (wpAny_loadPart hx (bZ (PySem.W.Looks.here (s:={s with toks:=s.toks+1}) (PySem.W.looks_clsIn X hc) ?_))))))
 rw[hd']
 refine pZ (a:=some dx) (bZ (pZ (bZ ?_)))
 refine wpAny_nsSet1 (s:={s with toks:=s.toks+1}) I.ns λh' hn2 hs2=> ?_
 obtain⟨oD,esD,epD,hoD,hdD,hcD⟩:=hn2.count (PySem.Within.cons name v hw)
 refine bZ (wpAny_lookBehind hoD (by rw[hdD];exact pastItsLine_dict (le_trans hcD (by rw[length_cons];omega))) ?_)
 exact pZ (h _ ⟨(hs2.2 _ (Ne.symm I.ne)).trans I.obj,hn2,I.ne⟩ hs2)
theorem XO{R:Result->Shared->Prop}{vs:List Value}{kw:List (Str×Value)}(X:K.In s.heap)(hm:PySem.W.makesIn K C=true)
  (hi:findIn K (.ref C) "__init__"=some (some (.ref f)))(hf:PySem.W.typeIn K (.ref f)=some (.type "function"))
  (h:codeAny (model prog w) (A.under (.builtin "type.__call__" ⟨.ref C::vs,kw⟩)) (.call (.ref f) ⟨.ref (s.heap.objs.size+1)::vs,kw⟩) (PySem.W.InitBack (s.heap.objs.size+1) R)
   {s with heap:=(s.heap.push emptyDict).push (instObj C s.heap.objs.size)}):
  codeAny (model prog w) A (.call (.ref C) ⟨vs,kw⟩) R s:=by
 obtain⟨hh,g,d,t,os⟩:=s
 exact PySem.W.make_core (PySem.W.makes_of X hm) (PySem.W.looks_findIn X hi) (λself=>PySem.W.bind_fn X self hf) (.inl rfl) h
end
noncomputable def S9(f:Str)(v:V):List (Str×V)->List (Str×V)
 | []=> [(f,v)]
 |(g,x)::r=>if g=f then(g,v)::r else(g,x)::S9 f v r
theorem DC(f g:Str)(v:V):∀fs:List (Str×V),(S9 f v fs).lookup g=if g=f then some v else fs.lookup g
 | []=>by
  show List.lookup g [(f,v)]=_
  by_cases h:g=f
  ·have hb:(g==f)=true:=beq_iff_eq.mpr h
   simp only[List.lookup,hb,if_pos h]
  ·have hb:(g==f)=false:=beq_eq_false_iff_ne.mpr h
   simp only[List.lookup,hb,if_neg h]
 |(k,x)::r=>by
  have ih:=DC f g v r
  rw[show S9 f v ((k,x)::r)=(if k=f then(k,v)::r else(k,x)::S9 f v r)from rfl]
  by_cases hk:k=f
  ·rw[if_pos hk]
   by_cases h:g=k
   ·have hb:(g==k)=true:=beq_iff_eq.mpr h
    simp only[List.lookup,hb,if_pos (h.trans hk)]
   ·have hb:(g==k)=false:=beq_eq_false_iff_ne.mpr h
    simp only[List.lookup,hb,if_neg (λe:g=f=>h (e.trans hk.symm))]
  ·rw[if_neg hk]
   by_cases h:g=k
   ·have hb:(g==k)=true:=beq_iff_eq.mpr h
    simp only[List.lookup,hb,if_neg (λe:g=f=>hk (h.symm.trans e))]
   ·have hb:(g==k)=false:=beq_eq_false_iff_ne.mpr h
    simp only[List.lookup,hb]
    exact ih
theorem CG(f:Str)(v:V):∀fs:List (Str×V),f∈(S9 f v fs).map (·.1)/\∀g,g∈fs.map (·.1)->g∈(S9 f v fs).map (·.1)
 | []=>⟨by simp[S9],λg h=>by simp at h⟩
 |(k,x)::r=>by
  obtain⟨i1,i2⟩:=CG f v r
  rw[show S9 f v ((k,x)::r)=(if k=f then(k,v)::r else(k,x)::S9 f v r)from rfl]
  by_cases hk:k=f
  ·rw[if_pos hk]
   subst hk
   exact⟨by simp,λg h=>by simpa using h⟩
  ·rw[if_neg hk]
   refine⟨?_,λg h=> ?_⟩
   ·rw[map_cons]
    exact mem_cons_of_mem _ i1
   ·rw[map_cons]at h⊢
    rcases cZ h with e|e
    ·exact mem_cons.mpr (.inl e)
    ·exact mem_cons_of_mem _ (i2 g e)
theorem DH(f:Str)(v:V):∀fs:List (Str×V),(S9 f v fs).length<=fs.length+1
 | []=>by simp[S9]
 |(k,x)::r=>by
  have ih:=DH f v r
  rw[show S9 f v ((k,x)::r)=(if k=f then(k,v)::r else(k,x)::S9 f v r)from rfl]
  by_cases hk:k=f
  ·rw[if_pos hk,length_cons,length_cons];omega
  ·rw[if_neg hk,length_cons,length_cons];omega
theorem RelO.some_of{v:V}{o:Option Value}(r:RelO (some v) o):∃u,o=some u/\RelV v u:=by
 cases o with
 |none=>exact(show False from r).elim
 |some u=>exact⟨u,rfl,r⟩
theorem RelO.none_of{o:Option Value}(r:RelO none o):o=none:=by
 cases o with
 |none=>rfl
 |some u=>exact(show False from r).elim
theorem UP{v:V}{u:Value}(r:RelV v u):PySem.W.handedIn u=true:=by
 cases v with
 |non=>cases(show u=Value.none from r);rfl
 |bl b=>cases(show u=Value.bool b from r);rfl
 |int i=>obtain⟨t,e⟩:=(show∃t,u=Value.int i t from r);cases e;rfl
 |str x=>obtain⟨t,e⟩:=(show∃t,u=Value.str x t from r);cases e;rfl
 |byt b=>obtain⟨t,e⟩:=(show∃t,u=Value.bytes b t from r);cases e;rfl
 |flt b=>obtain⟨t,e⟩:=(show∃t,u=Value.float b t from r);cases e;rfl
 |ref a=>cases(show u=Value.ref a from r);rfl
 |ty n=>cases(show u=Value.type n from r);rfl
section
variable{P:Program}{w:World}{H H':Hp}{h h':Heap}{a C dx:Addr}{fs fs':List (Str×V)}
theorem BL(hok:HOk P w H h)(e:H a=some (.ins C dx fs)):∃mA,ObjM h a dx C mA/\(∀f,RelO (fs.lookup f) (mA f))/\PySem.Within mA (fs.map (·.1))/\fs.length<=1000/\H dx=some (.own a):=by
 obtain⟨d,z,ne,ob,mA,n,r,q⟩:=(show ObjOk P w H h a (.ins C dx fs)from hok a _ e)
 exact⟨mA,⟨ob,n,ne⟩,r,q,z,d⟩
end
structure Cls (K:FZ) (C:Addr):Prop where
 pg:plainGet K C Str.empty=true
 hd:PySem.W.hasDictIn K C=true
 po:PySem.W.plainOver K C=true
 sa:findIn K (.ref C) "__setattr__"=some (some (.builtin "object.__setattr__"))
theorem Cls.get{K:FZ}{C:Addr}(c:Cls K C)(f:Str):plainGet K C f=true:=c.pg
noncomputable def NoAttr(K:FZ)(C:Addr)(f:Str):Prop:=findIn K (.ref C) f=some none
theorem NoAttr.taker{K:FZ}{C:Addr}{f:Str}(n:NoAttr K C f):PySem.W.takerIn K C f=some none:=by
 unfold PySem.W.takerIn
 rw[show findIn K (.ref C) f=some none from n]
 rfl
structure Meth (K:FZ) (C:Addr) (m:Str) (f:Addr):Prop where
 at_:findIn K (.ref C) m=some (some (.ref f))
 fn:isFn K (.ref f)=true
 kp:kZ K (.ref f)=true
section
variable{X:Cx}{pins:List (Addr×Obj)}{σ:St}{H:Hp}{s:Shared}{a C dx:Addr}{fs:List (Str×V)}{f:Str}{v:V}{A:Around}{E:Value->Shared->Prop}
theorem FX{b:Bool}{Q:Value->Shared->Prop}(I:Inv X pins σ H s)(e:H a=some (.ins C dx fs))(c:Cls X.K C)(n:NoAttr X.K C f)(l:fs.lookup f=some v)
  (h:∀u s',Inv X pins σ H s'->RelV v u->Q u s'):wpAny (model X.prog X.w) A (getAttr (.ref a) f b) Q E s:=by
 obtain⟨mA,O,r,_,_,_⟩:=BL I.hok e
 obtain⟨u,hu,ru⟩:=RelO.some_of (v:=v) (o:=mA f) (by rw[<-l];exact r f)
 exact aIZ I.kIn O (c.get f) c.hd n hu (UP ru) (h u _ (I.tok _) ru)
theorem EV{m:Str}{g:Addr}{pl:Sem Bool}{Q:Value×List Value->Shared->Prop}(I:Inv X pins σ H s)(e:H a=some (.ins C dx fs))(c:Cls X.K C)(k:Meth X.K C m g)(l:fs.lookup m=none)
  (h:Q (.ref g,[.ref a]) s):wpAny (model X.prog X.w) A (getMethod (.ref a) m pl) Q E s:=by
 obtain⟨mA,O,r,_,_,_⟩:=BL I.hok e
 have hn:mA m=none:=RelO.none_of (by rw[<-l];exact r m)
 exact ZB I.kIn O (c.get m) k.at_ k.fn hn h
theorem FF{y:V}{u:Value}{Q:Unit->Shared->Prop}(I:Inv X pins σ H s)(e:H a=some (.ins C dx fs))(c:Cls X.K C)(n:NoAttr X.K C f)(hl:fs.length<1000)(ry:RelV y u)
  (h:∀s',Inv X pins σ (upd H a (.ins C dx (S9 f y fs))) s'->Q () s'):wpAny (model X.prog X.w) A (setAttr (.ref a) f u) Q E s:=by
 obtain⟨mA,O,r,wi,_,ho⟩:=BL I.hok e
 have hz:(fs.map (·.1)).length<=sizeLine:=by rw[length_map,sizeLine_eq];omega
 refine adZ I.kIn O c.sa c.po n.taker c.hd wi hz λh' O' sb=>h _ ?_
 have hd:∃o,h'.get? dx=some o:=let⟨o,_,_,e',_⟩:=O'.ns;⟨o,e'⟩
 refine I.write (x:=a) (e:=dx) (by rw[e];exact True.intro) (.inr ho) (λb q hb z=>(sb.2 b hb).trans z) hd ?_
 refine⟨by rw[B0 O.ne];exact ho, ?_,O.ne,O'.obj,_,O'.ns,λg=> ?_,λg hg=> ?_⟩
 ·have:=DH f y fs;omega
 ·show RelO ((S9 f y fs).lookup g) (if g=f then some u else mA g)
  rw[DC]
  by_cases q:g=f
  ·rw[if_pos q,if_pos q];exact ry
  ·rw[if_neg q,if_neg q];exact r g
 ·by_cases q:g=f
  ·rw[q];exact(CG f y fs).1
  ·refine(CG f y fs).2 g (wi g λz=>hg ?_)
   show(if g=f then some u else mA g)=none
   rw[if_neg q];exact z
theorem Inv.made(I:Inv X pins σ H s):Inv X pins σ (upd (upd H s.heap.objs.size (.own (s.heap.objs.size+1))) (s.heap.objs.size+1) (.ins C s.heap.objs.size []))
  {s with heap:=(s.heap.push emptyDict).push (instObj C s.heap.objs.size)}:=by
 have e1:(s.heap.push emptyDict).get? s.heap.objs.size=some emptyDict:=get?_push_size s.heap rfl
 have e2:((s.heap.push emptyDict).push (instObj C s.heap.objs.size)).get? (s.heap.objs.size+1)=some (instObj C s.heap.objs.size):=by
  have:=get?_push_size (s.heap.push emptyDict) (o:=instObj C s.heap.objs.size) rfl
  rwa [size_push]at this
 have e3:(s.heap.push emptyDict).Ns s.heap.objs.size (λ_=>none):=⟨emptyDict, #[],_,e1,rfl,(λe he=>absurd he (by simp)),λ_=>rfl⟩
 have I1:=I.laid (a:=s.heap.objs.size) (o:=.own (s.heap.objs.size+1)) (h':=s.heap.push emptyDict) (t':=s.toks) (λb u q=>gZ _ q) (le_refl _) ⟨_,e1⟩
 refine I1.laid (a:=s.heap.objs.size+1) (o:=.ins C s.heap.objs.size []) (t':=s.toks) (λb u q=>gZ _ q) (Nat.le_of_eq (size_push _ _)) ?_
 have ne:s.heap.objs.size≠s.heap.objs.size+1:=ne_of_lt (Nat.lt_succ_self _)
 refine⟨by rw[B0 ne,A2],zero_le _,ne,e2,λ_=>none,(Heap.Ns1.of_empty e3).at λo q=>gZ _ q,λ_=>True.intro,λy hy=>absurd rfl hy⟩
theorem aCZ{prog:Program}{w:World}{env:Env}{e:Expr}{f:Str}{pos:Pos}{s:Shared}{Q:Value->Shared->Prop}(hb:attributeBase e f env (eval e env)=eval e env)
  (h:wpAny (model prog w) A (eval e env) (λo s₁=>wpAny (model prog w) A (getAttr o f true) Q E s₁) E s):wpAny (model prog w) A (eval (.Attribute e f pos) env) Q E s:=
 Attribute_any_ h (by rw[arm_eval_Attribute,hb])
end
inductive tFldW (K:FZ) (f:Str) (Q:VK) (x:V) (H1:Hp):Prop
 |mk:∀a C dx fs v,(x=.ref a)->(H1 a=some (.ins C dx fs))->(Cls K C)->(NoAttr K C f)->(fs.lookup f=some v)->(Q v H1)->tFldW K f Q x H1
noncomputable def dFZ(K:FZ)(ta:TE)(f:Str):TE:=fun σ H Q=>ta σ H λx H1=>tFldW K f Q x H1
inductive sFldW (K:FZ) (f:Str) (D:Ends) (σ:St) (y x:V) (H2:Hp):Prop
 |mk:∀a C dx fs,(x=.ref a)->(H2 a=some (.ins C dx fs))->(Cls K C)->(NoAttr K C f)->(fs.length<1000)->(D.nx σ (upd H2 a (.ins C dx (S9 f y fs))))->sFldW K f D σ y x H2
noncomputable def d7Z(K:FZ)(ta tv:TE)(f:Str):TS:=λD σ H=>tv σ H λy H1=>ta σ H1 λx H2=>sFldW K f D σ y x H2
noncomputable def cSZ(X:Cx)(op:Operator)(rd:V->V->Hp->VK->Prop):Prop:=
 ∀(pins:List (Addr×Obj)) (s:Shared) (σ:St) (H:Hp) (x y:V) (u v:Value) (Q:VK),Inv X pins σ H s->RelV x u->RelV y v->rd x y H Q->wpAny (model X.prog X.w) X.A (inplaceOp op u v) (EP X pins σ Q) X.xe s
noncomputable def ZZ(K:FZ)(ta tv:TE)(rd:V->V->Hp->VK->Prop)(f:Str):TS:=λD σ H=>ta σ H λx H1=>∃a C dx fs v,x=.ref a/\H1 a=some (.ins C dx fs)/\Cls K C/\NoAttr K C f/\fs.lookup f=some v/\
 tv σ H1 λy H2=>rd v y H2 λz H3=>∃dx' fs',H3 a=some (.ins C dx' fs')/\fs'.length<1000/\D.nx σ (upd H3 a (.ins C dx' (S9 f z fs')))
section
variable{X:Cx}{o e value:Expr}{f:Str}{pos pos' tpos:Pos}{ta tv:TE}
theorem G3(he:PE X e ta)(hb:attributeBase e f X.env (eval e X.env)=eval e X.env):PE X (.Attribute e f pos) (dFZ X.K ta f):=by
 intro pins s σ H Q I h
 refine aCZ hb (thn (he pins s σ H _ I h) λu s1 ⟨x,H1,I1,rx,a,C,dx,fs,v,ex,ea,c,n,l,q⟩=> ?_)
 subst ex
 obtain rfl:u=Value.ref a:=rx
 exact FX I1 ea c n l λu' s2 I2 ru=>⟨v,H1,I2,ru,q⟩
theorem U2(ha:PE X o ta)(hv:PE X value tv)(hs:swapsWith value (some (.Attribute o f pos')) pos.line X.env=pure false):PS X (.Assign [.Attribute o f pos'] value pos) (d7Z X.K ta tv f):=by
 intro pins s σ H D I h
 refine plainObj_wpAny_Assign_Attribute (thn (hv pins s σ H _ I h) λu s1 ⟨y,H1,I1,ry,q⟩=>thn (ha pins s1 σ H1 _ I1 q) λov s2 ⟨x,H2,I2,rx,a,C,dx,fs,ex,ea,c,n,l,q2⟩=> ?_) hs
 subst ex
 obtain rfl:ov=Value.ref a:=rx
 exact FF I2 ea c n l ry λs3 I3=>⟨σ,_,I3,q2⟩
theorem IC{op:Operator}{rd:V->V->Hp->VK->Prop}(ha:PE X o ta)(hv:PE X value tv)(hop:cSZ X op rd):PS X (.AugAssign (.Attribute o f tpos) op value pos) (ZZ X.K ta tv rd f):=by
 intro pins s σ H D I h
 refine wpAny_AugAssign_AttributeAny (thn (ha pins s σ H _ I h) λov s1 ⟨x,H1,I1,rx,a,C,dx,fs,v,ex,ea,c,n,l,q⟩=> ?_)
 subst ex
 obtain rfl:ov=Value.ref a:=rx
 refine FX I1 ea c n l λu s2 I2 ru=>thn (hv pins s2 σ H1 _ I2 q) λw3 s3 ⟨y,H2,I3,ry,q3⟩=>thn (hop pins s3 σ H2 v y u w3 _ I3 ru ry q3) λw4 s4 ⟨z,H3,I4,rz,dx',fs',ea',l',q4⟩=> ?_
 exact FF I4 ea' c n l' rz λs5 I5=>⟨σ,_,I5,q4⟩
inductive rAdd (x:V) (y:V) (H:Hp) (Q:VK):Prop
 |mk:∀i j,(x=.int i)->(y=.int j)->(Q (.int (i+j)) H)->rAdd x y H Q
theorem YQ:cSZ X .Add rAdd:=by
 rintro pins s σ H x y u v Q I rx ry ⟨i,j,rfl,rfl,q⟩
 obtain⟨t,rfl⟩:=(show∃t,u=Value.int i t from rx)
 obtain⟨t',rfl⟩:=(show∃t',v=Value.int j t' from ry)
 exact PyProof.Rows.iadd_int ⟨.int (i+j),H,I.tok _,⟨_,rfl⟩,q⟩
variable{pins:List (Addr×Obj)}{σ:St}{H:Hp}{s:Shared}{A:Around}{E:Value->Shared->Prop}{Q:Value->Shared->Prop}{c:Value}{b:Bool}
inductive TyOf(K:FZ)(H:Hp):V->Value->Prop where
 |non:TyOf K H .non (.type "NoneType")
 |bl (x:Bool):TyOf K H (.bl x) (.type "bool")
 |int (i:Int):TyOf K H (.int i) (.type "int")
 |str (x:Str):TyOf K H (.str x) (.type "str")
 |flt (x:UInt64):TyOf K H (.flt x) (.type "float")
 |lst {a:Addr} {xs:List V} (e:H a=some (.lst xs)):TyOf K H (.ref a) (.type "list")
 |frz {a:Addr} {o:Obj} {xs:List V} (e:H a=some (.frz o (.lst xs))):TyOf K H (.ref a) (.type "list")
 |tup {a:Addr} {xs:List V} (e:H a=some (.tup xs)):TyOf K H (.ref a) (.type "tuple")
 |dK {a:Addr} {kvs:List (Key×V)} (e:H a=some (.dK kvs)):TyOf K H (.ref a) (.type "dict")
 |dT {a:Addr} {kvs:List (List Key×V)} (e:H a=some (.dT kvs)):TyOf K H (.ref a) (.type "dict")
 |ins {a C dx:Addr} {fs:List (Str×V)} (e:H a=some (.ins C dx fs)) (cl:Cls K C) (ha:findIn K (.ref C) "__class__"=some (some (.builtin "object.__class__")))
   (hn:PySem.W.specialIn K (.builtin "object.__class__") "__get__"=some (some (.builtin "getset_descriptor.__get__"))) (htk:PySem.W.takesIn K (.builtin "object.__class__")=some true)
   (hm:PySem.W.mroIn K C (.type "object")=some true):TyOf K H (.ref a) (.ref C)
theorem VB{x:V}{u t:Value}(I:Inv X pins σ H s)(rx:RelV x u)(ty:TyOf X.K H x t)(e:kitOne X.K t c=some b)(h:∀tk,Q (.bool b) {s with toks:=tk}):
  wpAny (model X.prog X.w) A (call (.builtin "isinstance") [u,c]) Q E s:=by
 cases ty with
 |non=>cases(show u=Value.none from rx);exact kia_one PySem.W.kitx_none I.kIn True.intro e (λz=>nomatch z) h
 |bl y=>cases(show u=Value.bool y from rx);exact kia_one PySem.W.kitx_bool I.kIn True.intro e (λz=>nomatch z) h
 |int i=>obtain⟨t,q⟩:=(show∃t,u=Value.int i t from rx);cases q;exact kia_one PySem.W.kitx_int I.kIn True.intro e (λz=>nomatch z) h
 |str y=>obtain⟨t,q⟩:=(show∃t,u=Value.str y t from rx);cases q;exact kia_one PySem.W.kitx_str I.kIn True.intro e (λz=>nomatch z) h
 |flt y=>obtain⟨t,q⟩:=(show∃t,u=Value.float y t from rx);cases q;exact kia_one PySem.W.kitx_float I.kIn True.intro e (λz=>nomatch z) h
 | @lst a xs ea=>
  cases(show u=Value.ref a from rx)
  obtain⟨_,_,n,_,h1⟩:=(show ObjOk X.prog X.w H s.heap a (.lst xs)from I.hok a _ ea)
  exact kia_one kitx_list I.kIn ⟨_,h1,rfl⟩ e (λz=>nomatch z) h
 | @frz a ob xs ea=>
  cases(show u=Value.ref a from rx)
  obtain⟨_,_,_,n,_,h1⟩:=(show ObjOk X.prog X.w H s.heap a (.frz ob (.lst xs))from I.hok a _ ea)
  exact kia_one kitx_list I.kIn ⟨_,h1,rfl⟩ e (λz=>nomatch z) h
 | @tup a xs ea=>
  cases(show u=Value.ref a from rx)
  obtain⟨_,_,_,p⟩:=(show ObjOk X.prog X.w H s.heap a (.tup xs)from I.hok a _ ea)
  obtain⟨o,h1,h2,_⟩:=p
  exact kia_one PySem.W.kitx_tuple I.kIn ⟨o,h1,h2⟩ e (λz=>nomatch z) h
 | @dK a kvs ea=>
  cases(show u=Value.ref a from rx)
  obtain⟨_,_,vs,_,p⟩:=(show ObjOk X.prog X.w H s.heap a (.dK kvs)from I.hok a _ ea)
  obtain⟨o,es,ep,h1,h2,_⟩:=p
  exact kia_one kitx_dict I.kIn ⟨o,h1,h2.1⟩ e (λz=>nomatch z) h
 | @dT a kvs ea=>
  cases(show u=Value.ref a from rx)
  obtain⟨_,_,xs,_,o,es,ep,h1,h2,_⟩:=(show ObjOk X.prog X.w H s.heap a (.dT kvs)from I.hok a _ ea)
  exact kia_one kitx_dict I.kIn ⟨o,h1,h2.1⟩ e (λz=>nomatch z) h
 | @ins a C dx fs ea cl ha hn htk hm=>
  cases(show u=Value.ref a from rx)
  obtain⟨mA,O,_⟩:=BL I.hok ea
  obtain⟨od,J,_⟩:=O.look
  exact kia_one (PySem.W.kitx_own (cl.get _) cl.hd ha hn htk hm) I.kIn J e (λz=>nomatch z) h
end
structure Room (k:Nat) (A:Around):Prop where
 hd:A.handled=none
 dp:A.depth+3*k+5<recursionLimit
 un:A.units+16*k+200<cLine
theorem Room.mono{j k:Nat}{A:Around}(r:Room k A)(h:j<=k):Room j A:=⟨r.hd,by have:=r.dp;omega,by have:=r.un;omega⟩
theorem Room.deeper{k:Nat}{A:Around}(r:Room (k+1) A)(env:Env):Room k (A.deeper env):=
 ⟨r.hd,by have:=r.dp;show A.depth+1+3*k+5<_;omega,by have:=r.un;show A.units+3+16*k+200<_;omega⟩
theorem QU{A:Around}{C:Addr}{us:List Value}{kw:List (Str×Value)}:(A.under (.builtin "type.__call__" ⟨.ref C::us,kw⟩)).depth=A.depth+1:=by
 first|rfl|simp[Around.under,Code.weight,Code.isCreation,Code.isGuard,Code.isCaller,Code.frames,Code.isFrame,guardIds]
theorem RE{A:Around}{C:Addr}{us:List Value}{kw:List (Str×Value)}:(A.under (.builtin "type.__call__" ⟨.ref C::us,kw⟩)).units=A.units+1:=by
 first|rfl|simp[Around.under,Code.cUnits,Code.frames,Code.isFrame]
theorem Room.make{k:Nat}{A:Around}(r:Room (k+1) A)(C:Addr)(us:List Value)(kw:List (Str×Value)):Room k (A.under (.builtin "type.__call__" ⟨.ref C::us,kw⟩)):=
 ⟨r.hd,by have:=r.dp;rw[QU];omega,by have:=r.un;rw[RE];omega⟩
theorem Room.depth{k:Nat}{A:Around}(r:Room k A):A.depth<recursionLimit:=by have:=r.dp;omega
theorem Room.units{k:Nat}{A:Around}(r:Room k A):A.units+64<cLine:=by have:=r.un;omega
theorem Room.units0{k:Nat}{A:Around}(r:Room k A):A.units<cLine:=by have:=r.un;omega
noncomputable def QR:TA:=λ_ H Q=>Q [] H
noncomputable def dtZ(ta:TE)(tr:TA):TA:=fun σ H Q=>ta σ H λx H1=>tr σ H1 λxs H2=>Q (x::xs) H2
section
variable{X:Cx}{e:Expr}{es:List Expr}{te:TE}{t:TA}{pos:Pos}
theorem A4:PA X [] QR:=λ_ _ _ _ H Q I h=>Calls.spliced_nil ⟨[],H,I,.nil,h⟩
theorem A0(ha:PE X e te)(hr:PA X es t)(hs:starEach (e::es) X.env=(false,eval e X.env)::starEach es X.env:=by rfl):PA X (e::es) (dtZ te t):=by
 intro pos pins s σ H Q I h
 rw[hs]
 show wpAny _ _ (spliced ((false,eval e X.env)::backTo pos (starEach es X.env))) _ _ s
 refine Calls.spliced_cons (thn (ha pins s σ H _ I h) λu s1 ⟨x,H1,I1,r1,q1⟩=> ?_)
 exact thn (hr pos pins s1 σ H1 _ I1 q1) λus s2 ⟨xs,H2,I2,r2,q2⟩=>⟨x::xs,H2,I2,.cons r1 r2,q2⟩
inductive tTupW (Q:VK) (xs:List V) (H1:Hp):Prop
 |mk:(xs.length<=sizeLine)->(∀p,H1 p=none->Q (.ref p) (upd H1 p (.tup xs)))->tTupW Q xs H1
noncomputable def dKZ(t:TA):TE:=fun σ H Q=>t σ H λxs H1=>tTupW Q xs H1
inductive tLstW (Q:VK) (xs:List V) (H1:Hp):Prop
 |mk:(xs.length<=sizeLine)->(∀p,H1 p=none->Q (.ref p) (upd H1 p (.lst xs)))->tLstW Q xs H1
noncomputable def dIZ(t:TA):TE:=fun σ H Q=>t σ H λxs H1=>tLstW Q xs H1
theorem B7{x1}(h:PA X es t):PE X (.Tuple es x1 pos) (dKZ t):=by
 intro pins s σ H Q I hq
 refine wpAny_Tuple_spliced (thn (h pos pins s σ H _ I hq) λus s1 ⟨xs,H1,I1,r,z,q⟩=>⟨by rw[<-r.length];exact z, ?_⟩)
 have hf:H1 s1.heap.objs.size=none:=I1.hok.fresh (le_refl _)
 refine⟨.ref s1.heap.objs.size,upd H1 s1.heap.objs.size (.tup xs),I1.laid (t':=s1.toks) (λb u e=>gZ _ e) (le_refl _) ?_,rfl,q _ hf⟩
 exact⟨z,us,r,⟨_,get?_push_size _ rfl,rfl,_,rfl⟩⟩
theorem D4(h:PA X es t):PE X (.List es pos) (dIZ t):=by
 intro pins s σ H Q I hq
 refine wpAny_List_spliced (thn (h pos pins s σ H _ I hq) λus s1 ⟨xs,H1,I1,r,z,q⟩=>⟨by rw[<-r.length];exact z, ?_⟩)
 have hf:H1 s1.heap.objs.size=none:=I1.hok.fresh (le_refl _)
 refine⟨.ref s1.heap.objs.size,upd H1 s1.heap.objs.size (.lst xs),I1.laid (t':=s1.toks) (λb u e=>gZ _ e) (le_refl _) ?_,rfl,q _ hf⟩
 exact⟨z,us,0,r,get?_push_size _ rfl⟩
end
noncomputable abbrev Sp:=List V->Hp->VK->XK->Prop
noncomputable abbrev CXT:=List Env->Hp->Shared->XK->Value->Shared->Prop
structure Env0 (P:Program) (w:World) (K:FZ) (mg:Str->Option Value) (base:Heap) (A:Around) (outer:List Env) (s:Shared) (H:Hp):Prop where
 frames:A.frames=some outer
 mod:Mod K mg base
 bs:∀b o,base.get? b=some o->s.heap.get? b=some o/\H b=none
 bsz:base.objs.size<=s.heap.objs.size
 funs:s.heap.FunFrames base outer
 frf:∀b∈frs outer,H b=none
 hok:HOk P w H s.heap
 bare:AllBare s.gens
noncomputable def CE(outer:List Env)(P:Program)(w:World)(H:Hp)(s:Shared)(Q:VK)(u:Value)(s':Shared):Prop:=
 ∃v H',s'.os=s.os/\AllBare s'.gens/\Un (frs outer) [] H H' s.heap s'.heap/\HOk P w H' s'.heap/\RelV v u/\Q v H'
noncomputable def CR(CX:CXT)(outer:List Env)(P:Program)(w:World)(H:Hp)(s:Shared)(Q:VK)(E:XK)(r:Result)(s':Shared):Prop:=
 match r with
 | .ok (.ret u)=>CE outer P w H s Q u s'
 | .ok _=>False
 | .error e=>CX outer H s E e s'
structure FnOk (P:Program) (w:World) (K:FZ) (mg:Str->Option Value) (base:Heap) (CX:CXT) (k:Nat) (f:Addr) (fd:FuncData) (ps:List Str) (sp:Sp):Prop where
 len:∀vs H Q E,sp vs H Q E->vs.length=ps.length
 run:∀(A:Around) (outer:List Env) (s:Shared) (H:Hp) (args:Args) (us:List Value) (vs:List V) (Q:VK) (E:XK),Room k A->Env0 P w K mg base A outer s H->BindsTo s fd args (ps.zip us)->Vals vs us->sp vs H Q E->
  codeAny (model P w) A (.call (.ref f) args) (CR CX outer P w H s Q E) s
theorem FnOk.mono{P:Program}{w:World}{K:FZ}{mg:Str->Option Value}{base:Heap}{CX:CXT}{j k:Nat}{f:Addr}{fd:FuncData}{ps:List Str}{sp:Sp}(F:FnOk P w K mg base CX j f fd ps sp)(h:j<=k):
  FnOk P w K mg base CX k f fd ps sp:=⟨F.len,λA outer s H args us vs Q E hr=>F.run A outer s H args us vs Q E (hr.mono h)⟩
theorem Env0.make{P:Program}{w:World}{K:FZ}{mg:Str->Option Value}{base:Heap}{A:Around}{outer:List Env}{s:Shared}{H:Hp}(e:Env0 P w K mg base A outer s H)(C:Addr)(us:List Value)(kw:List (Str×Value)):
  Env0 P w K mg base (A.under (.builtin "type.__call__" ⟨.ref C::us,kw⟩)) outer s H:=⟨by first|exact e.frames|(simpa [Around.under,Code.envs,Code.isFrame,pushEnvs]using e.frames),e.mod,e.bs,e.bsz,e.funs,e.frf,e.hok,e.bare⟩
section
variable{X:Cx}{pins:List (Addr×Obj)}{σ:St}{H:Hp}{s s':Shared}
theorem Inv.env0(I:Inv X pins σ H s):Env0 X.prog X.w X.K X.mg X.base X.A X.stack s H:=
 ⟨I.ok.frames,I.ok.mod,I.bs,le_trans I.ok.bsz I.sz,I.stack,I.stkFree,I.hok,I.bare⟩
theorem Inv.after{Q:VK}{u:Value}(I:Inv X pins σ H s)(h:CE X.stack X.prog X.w H s Q u s'):EP X pins σ Q u s':=by
 obtain⟨v,H',os,bare,un,hok,r,q⟩:=h
 obtain⟨hh,g,d,t,os'⟩:=s'
 obtain rfl:os'=s.os:=os
 exact⟨v,H',I.call (h':=hh) (g':=g) (d':=d) (t':=t) (ch:=[]) un hok bare (λb z=>absurd z (by simp)),r,q⟩
end
noncomputable def dgZ(sp:Sp)(dvs:List V)(E:XK)(t:TA):TE:=fun σ H Q=>t σ H λvs H1=>sp (vs++dvs) H1 Q E
inductive tMethW (C:Addr) (m:Str) (sp:Sp) (dvs:List V) (E:XK) (t:TA) (σ:St) (Q:VK) (x:V) (H1:Hp):Prop
 |mk:∀a dx fs,(x=.ref a)->(H1 a=some (.ins C dx fs))->(fs.lookup m=none)->(t σ H1 λvs H2=>sp (x::(vs++dvs)) H2 Q E)->tMethW C m sp dvs E t σ Q x H1
noncomputable def biZ(C:Addr)(m:Str)(sp:Sp)(dvs:List V)(E:XK)(ta:TE)(t:TA):TE:=fun σ H Q=>ta σ H λx H1=>tMethW C m sp dvs E t σ Q x H1
noncomputable def a5Z(C:Addr)(sp:Sp)(dvs:List V)(E:XK)(t:TA):TE:=fun σ H Q=>t σ H λvs H1=>∀x dx,H1 x=none->H1 dx=none->dx≠x->
 sp (.ref x::(vs++dvs)) (upd (upd H1 dx (.own x)) x (.ins C dx [])) (λv H2=>v=.non/\Q (.ref x) H2) E
noncomputable def Binds(K:FZ)(fd:FuncData)(ps:List Str)(ds:List Value):Prop:=
 ∀(s:Shared) (us:List Value),K.In s.heap->(us++ds).length=ps.length->BindsTo s fd ⟨us,[]⟩ (ps.zip (us++ds))
theorem Binds.all{K:FZ}{fd:FuncData}{ps:List Str}(h:∀us:List Value,us.length=ps.length->bindArgs fd ⟨us,[]⟩=pure (ps.zip us)):Binds K fd ps []:=λs us _ hl=>by
 rw[append_nil]at hl⊢
 exact .of_eq (h us hl)
noncomputable def V7(CX:CXT)(X:Cx)(E:XK):Prop:=∀(pins:List (Addr×Obj)) (σ:St) (H:Hp) (s:Shared) (e:Value) (s':Shared),Inv X pins σ H s->CX X.stack H s E e s'->X.xe e s'
section
variable{X:Cx}{CX:CXT}{k:Nat}{f C:Addr}{fd:FuncData}{ps:List Str}{sp:Sp}{dvs:List V}{ds:List Value}{E:XK}{x m:Str}{p pos apos:Pos}{e o:Expr}{es:List Expr}{ta:TE}{t:TA}
theorem FV{pins:List (Addr×Obj)}{σ:St}{H:Hp}{s:Shared}{Q:VK}{us:List Value}{vs:List V}(F:FnOk X.prog X.w X.K X.mg X.base CX k f fd ps sp)(hr:Room k X.A)(hb:Binds X.K fd ps ds)(hd:Vals dvs ds)(hx:V7 CX X E)
  (I:Inv X pins σ H s)(r:Vals vs us)(h:sp (vs++dvs) H Q E):wpAny (model X.prog X.w) X.A (call (.ref f) us) (EP X pins σ Q) X.xe s:=by
 have r2:Vals (vs++dvs) (us++ds):=r.append hd
 have hl:(us++ds).length=ps.length:=by rw[<-r2.length];exact F.len _ _ _ _ h
 refine wpAny_call (codeAny_mono (F.run X.A X.stack s H ⟨us,[]⟩ (us++ds) (vs++dvs) Q E hr I.env0 (hb s us I.kIn hl) r2 h) λr s' hq=> ?_)
 cases r with
 |error e=>exact hx pins σ H s e s' I hq
 |ok fl=>
  cases fl with
  |ret u=>exact I.after hq
  |next=>exact False.elim hq
  |brk=>exact False.elim hq
  |cont=>exact False.elim hq
theorem B1(F:FnOk X.prog X.w X.K X.mg X.base CX k f fd ps sp)(hr:Room k X.A)(hg:Gl X x)(hm:X.mg x=some (.ref f))(hk:kZ X.K (.ref f)=true)(hb:Binds X.K fd ps ds)(hd:Vals dvs ds)(hx:V7 CX X E)
  (ha:PA X (e::es) t)(hdb:(x==("__debug__":Str))=false:=by decide)(he:starEach (e::es) X.env=(false,eval e X.env)::starEach es X.env:=by rfl)(hpl:(backTo pos (starEach es X.env)).any (·.1)=false:=by rfl):
  PE X (.Call (.Name x p) (e::es) [] pos) (dgZ sp dvs E t):=by
 intro pins s σ H Q I h
 refine wpAny_Call_Name_kw (BF I hg hm ?_ hdb)
 refine callWith_K (h₀:=X.base) I.ok.mod.kin hk (thn (ha pos pins s σ H _ I h) λus s1 ⟨vs,H1,I1,r,q⟩=>⟨I1.kIn, ?_⟩) he hpl
 exact FV F hr hb hd hx I1 r q
theorem O1{pl:Sem Bool}(he:PE X o ta)(c:Cls X.K C)(hm:Meth X.K C m f)(F:FnOk X.prog X.w X.K X.mg X.base CX k f fd ps sp)(hr:Room k X.A)(hb:Binds X.K fd ps ds)(hd:Vals dvs ds)(hx:V7 CX X E)(ha:PA X (e::es) t)
  (hst:starEach (e::es) X.env=(false,eval e X.env)::starEach es X.env:=by rfl)(hpl:(backTo pos (starEach es X.env)).any (·.1)=false:=by rfl)
  (ht:eval (.Call (.Attribute o m apos) (e::es) [] pos) X.env=(do
   let ov<-eval o X.env
   standAt apos.atName
   let(f,first)<-holding [ov] (getMethod ov m pl)
   callWith pos f first (backTo pos (starEach (e::es) X.env)) (backToKw pos (keywordEach [] X.env))):=by rfl):
  PE X (.Call (.Attribute o m apos) (e::es) [] pos) (biZ C m sp dvs E ta t):=by
 intro pins s σ H Q I h
 refine PySem.W.methodCall_KW (pl:=pl) (thn (he pins s σ H _ I h) λu s1 ⟨x,H1,I1,rx,a,dx,fs,ex,ea,l,q⟩=> ?_) ht
 subst ex
 obtain rfl:u=Value.ref a:=rx
 refine EV I1 ea c hm l ?_
 refine callWith_K (first:=[.ref a]) (h₀:=X.base) I.ok.mod.kin hm.kp (thn (ha pos pins s1 σ H1 _ I1 q) λus s2 ⟨vs,H2,I2,r,q2⟩=>⟨I2.kIn, ?_⟩) hst hpl
 exact FV (us:=.ref a::us) (vs:=.ref a::vs) F hr hb hd hx I2 (.cons rfl r) q2
theorem G1{pl:Sem Bool}(he:PE X o ta)(c:Cls X.K C)(hm:Meth X.K C m f)(F:FnOk X.prog X.w X.K X.mg X.base CX k f fd ps sp)(hr:Room k X.A)(hb:Binds X.K fd ps ds)(hd:Vals dvs ds)(hx:V7 CX X E)
  (ht:eval (.Call (.Attribute o m apos) [] [] pos) X.env=(do
   let ov<-eval o X.env
   standAt apos.atName
   let(f,first)<-holding [ov] (getMethod ov m pl)
   callWith pos f first (backTo pos (starEach [] X.env)) (backToKw pos (keywordEach [] X.env))):=by rfl):
  PE X (.Call (.Attribute o m apos) [] [] pos) (biZ C m sp dvs E ta QR):=by
 intro pins s σ H Q I h
 refine PySem.W.methodCall_KW (pl:=pl) (thn (he pins s σ H _ I h) λu s1 ⟨x,H1,I1,rx,a,dx,fs,ex,ea,l,q⟩=> ?_) ht
 subst ex
 obtain rfl:u=Value.ref a:=rx
 refine EV I1 ea c hm l ?_
 exact PySem.W.callWith_K0 (first:=[.ref a]) I1.kIn hm.kp (FV (us:=[.ref a]) (vs:=[.ref a]) F hr hb hd hx I1 (.cons rfl .nil) q)
structure Mk (K:FZ) (C f:Addr):Prop where
 makes:PySem.W.makesIn K C=true
 init:findIn K (.ref C) "__init__"=some (some (.ref f))
 fn:isFn K (.ref f)=true
 kp:kZ K (.ref C)=true
theorem LY{pins:List (Addr×Obj)}{σ:St}{H:Hp}{s:Shared}{Q:VK}{us:List Value}{vs:List V}(M:Mk X.K C f)(F:FnOk X.prog X.w X.K X.mg X.base CX k f fd ps sp)(hr:Room (k+1) X.A)(hb:Binds X.K fd ps ds)(hd:Vals dvs ds)
  (hx:V7 CX X E)(I:Inv X pins σ H s)(r:Vals vs us)
  (h:∀x dx,H x=none->H dx=none->dx≠x->sp (.ref x::(vs++dvs)) (upd (upd H dx (.own x)) x (.ins C dx [])) (λv H2=>v=.non/\Q (.ref x) H2) E):
  wpAny (model X.prog X.w) X.A (call (.ref C) us) (EP X pins σ Q) X.xe s:=by
 have hq:=h (s.heap.objs.size+1) s.heap.objs.size (I.hok.fresh (le_succ _)) (I.hok.fresh (le_refl _)) (ne_of_lt (Nat.lt_succ_self _))
 have I2:=Inv.made (C:=C) I
 have r2:Vals (V.ref (s.heap.objs.size+1)::(vs++dvs)) (Value.ref (s.heap.objs.size+1)::(us++ds)):=.cons rfl (r.append hd)
 have hl:(Value.ref (s.heap.objs.size+1)::us++ds).length=ps.length:=by
  have e:=r2.length
  rw[F.len _ _ _ _ hq]at e
  exact e.symm
 refine wpAny_call (XO (f:=f) I.kIn M.makes M.init (beq_iff_eq.mp M.fn) (codeAny_mono (F.run _ X.stack _ _ ⟨Value.ref (s.heap.objs.size+1)::us,[]⟩ (Value.ref (s.heap.objs.size+1)::(us++ds)) _ _ E (hr.make C us [])
  (I2.env0.make C us []) (hb _ (Value.ref (s.heap.objs.size+1)::us) I2.kIn hl) r2 hq) λr s' hq'=> ?_))
 cases r with
 |error e=>exact hx pins σ _ _ e s' I2 hq'
 |ok fl=>
  cases fl with
  |ret u=>
   obtain⟨v,H',I3,rv,ev,q3⟩:=I2.after hq'
   subst ev
   exact⟨rv,⟨V.ref (s.heap.objs.size+1),H',I3,rfl,q3⟩⟩
  |next=>exact False.elim hq'
  |brk=>exact False.elim hq'
  |cont=>exact False.elim hq'
theorem alZ(M:Mk X.K C f)(F:FnOk X.prog X.w X.K X.mg X.base CX k f fd ps sp)(hr:Room (k+1) X.A)(hg:Gl X x)(hm:X.mg x=some (.ref C))(hb:Binds X.K fd ps ds)(hd:Vals dvs ds)(hx:V7 CX X E)
  (ha:PA X (e::es) t)(hdb:(x==("__debug__":Str))=false:=by decide)(he:starEach (e::es) X.env=(false,eval e X.env)::starEach es X.env:=by rfl)(hpl:(backTo pos (starEach es X.env)).any (·.1)=false:=by rfl):
  PE X (.Call (.Name x p) (e::es) [] pos) (a5Z C sp dvs E t):=by
 intro pins s σ H Q I h
 refine wpAny_Call_Name_kw (BF I hg hm ?_ hdb)
 refine callWith_K (h₀:=X.base) I.ok.mod.kin M.kp (thn (ha pos pins s σ H _ I h) λus s1 ⟨vs,H1,I1,r,q⟩=>⟨I1.kIn, ?_⟩) he hpl
 exact LY M F hr hb hd hx I1 r q
theorem MQ(M:Mk X.K C f)(F:FnOk X.prog X.w X.K X.mg X.base CX k f fd ps sp)(hr:Room (k+1) X.A)(hg:Gl X x)(hm:X.mg x=some (.ref C))(hb:Binds X.K fd ps ds)(hd:Vals dvs ds)(hx:V7 CX X E)
  (hdb:(x==("__debug__":Str))=false:=by decide):PE X (.Call (.Name x p) [] [] pos) (a5Z C sp dvs E QR):=by
 intro pins s σ H Q I h
 refine wpAny_Call_Name_kw (BF I hg hm ?_ hdb)
 exact PySem.W.callWith_K0 I.kIn M.kp (LY (us:=[]) M F hr hb hd hx I .nil h)
variable{ks:List Str}{kpos:Pos}{kws:List Keyword}{te:TE}{tk:TA}{nm:Option Str}
variable{g:List Value->List Value->List Value}{gV:List V->List V->List V}
end
structure FnScope(N P:List Str)(sc:Scope):Prop where
 kind:sc.kind=.function
 co:sc.isCoroutine=false
 gen:sc.isGenerator=false
 nd:N.Nodup
 pre:N.take P.length=P
 par:∀x∈P,sc.names.lookup x=some .local\/sc.names.lookup x=some .cell
 nofree:∀y∈sc.names,y.2≠ .free
theorem HW{kindOf:Str->Option NameKind}{x:Str}:∀ {binds:List (Str×Value)} {m:Str->Option Value},(∀v,(x,v)∉binds)->bindL kindOf binds m x=m x
 | [],_,_=>rfl
 |(n,v)::r,m,h=>by
  unfold bindL
  rw[HW λw hw=>h w (mem_cons_of_mem _ hw)]
  split
  ·have:x≠n:=by rintro rfl;exact h v mem_cons_self
   simp[this]
  ·rfl
theorem IE{kindOf:Str->Option NameKind}{x:Str}:∀ {binds:List (Str×Value)} {m:Str->Option Value},(∀v,(x,v)∉binds)->bindC kindOf binds m x=m x
 | [],_,_=>rfl
 |(n,v)::r,m,h=>by
  unfold bindC
  rw[IE λw hw=>h w (mem_cons_of_mem _ hw)]
  split
  ·rfl
  ·have:x≠n:=by rintro rfl;exact h v mem_cons_self
   simp[this]
theorem HR{kindOf:Str->Option NameKind}{x:Str}{v:Value}:∀ {P:List Str} {vs:List Value} {i:Nat} {m:Str->Option Value},P.Nodup->P[i]? =some x->vs[i]? =some v->kindOf x=some .local->
  bindL kindOf (P.zip vs) m x=some v
 | [],_,_,_,_,h,_,_=>by simp at h
 |_::_,[],_,_,_,_,h,_=>by simp at h
 |p::P,w::vs,0,m,nd,h1,h2,hk=>by
  simp at h1 h2;subst h1;subst h2
  show bindL kindOf ((p,w)::P.zip vs) m p=_
  unfold bindL
  rw[HW λv hv=>(nodup_cons.mp nd).1 (of_mem_zip hv).1,if_pos hk]
  simp
 |p::P,w::vs,i+1,m,nd,h1,h2,hk=>by
  show bindL kindOf ((p,w)::P.zip vs) m x=_
  unfold bindL
  exact HR (i:=i) (nodup_cons.mp nd).2 (by simpa using h1) (by simpa using h2) hk
theorem IA{kindOf:Str->Option NameKind}{x:Str}{v:Value}:∀ {P:List Str} {vs:List Value} {i:Nat} {m:Str->Option Value},P.Nodup->P[i]? =some x->vs[i]? =some v->kindOf x≠some .local->
  bindC kindOf (P.zip vs) m x=some v
 | [],_,_,_,_,h,_,_=>by simp at h
 |_::_,[],_,_,_,_,h,_=>by simp at h
 |p::P,w::vs,0,m,nd,h1,h2,hk=>by
  simp at h1 h2;subst h1;subst h2
  show bindC kindOf ((p,w)::P.zip vs) m p=_
  unfold bindC
  rw[IE λv hv=>(nodup_cons.mp nd).1 (of_mem_zip hv).1,if_neg hk]
  simp
 |p::P,w::vs,i+1,m,nd,h1,h2,hk=>by
  show bindC kindOf ((p,w)::P.zip vs) m x=_
  unfold bindC
  exact IA (i:=i) (nodup_cons.mp nd).2 (by simpa using h1) (by simpa using h2) hk
noncomputable def start(N:List Str)(vs:List V):St:=vs.map some++List.replicate (N.length - vs.length) none
noncomputable def LX(CX:CXT)(P:Program)(w:World)(K:FZ)(mg:Str->Option Value)(base:Heap)(N:List Str)(qual:Str)(scope:Scope)(f:Addr)(cd:Value)(A:Around)(outer:List Env)(s:Shared)(H:Hp)(E:XK):Cx where
 prog:=P
 w:=w
 K:=K
 mg:=mg
 base:=base
 A:=A.deeper (envOfC qual scope s.heap.objs.size f cd)
 N:=N
 s₀:=s
 H₀:=H
 env:=envOfC qual scope s.heap.objs.size f cd
 outer:=outer
 stack:=envOfC qual scope s.heap.objs.size f cd::outer
 ex:=[]
 calm:=true
 fn:=λ_=>true
 pn:=[]
 xe:=λe s'=>wpAny (model P w) (A.deeper (envOfC qual scope s.heap.objs.size f cd)) (leaving (envOfC qual scope s.heap.objs.size f cd) e) (λ_ s''=>CX outer H s E e s'') (λe' s''=>CX outer H s E e' s'') s'
theorem MM{sc:Scope}{n:Nat}{x:Str}(h:sc.names.lookup x=some .cell):∃c,(cellsFrom n sc.names []).lookup x=some c:=by
 have q:=PySem.W.cellsFrom_some sc.names n [] (.inl h)
 exact Option.isSome_iff_exists.mp q
theorem VH{CX:CXT}{P:Program}{w:World}{K:FZ}{mg:Str->Option Value}{base:Heap}{N ps:List Str}{qual:Str}{scope:Scope}{f:Addr}{cd:Value}{A:Around}{outer:List Env}{s s1:Shared}{H:Hp}{E:XK}{us:List Value}{vs:List V}
  (S:FnScope N ps scope)(hd:A.handled=none)(e0:Env0 P w K mg base A outer s H)(hl:vs.length=ps.length)(r:Vals vs us)
  (x:InCallC s s.heap.objs.size (bindL (envOfC qual scope s.heap.objs.size f cd).kindOf (ps.zip us) λ_=>none) (cellsFrom (s.heap.objs.size+1) scope.names []) (bindC (envOfC qual scope s.heap.objs.size f cd).kindOf (ps.zip us) λ_=>none) s1):
  Inv (LX CX P w K mg base N qual scope f cd A outer s H E) [] (start N vs) H s1:=by
 have hpl:ps.length<=N.length:=by have:=congrArg List.length S.pre;rw[length_take]at this;omega
 obtain⟨h1,tk,rfl,hk⟩:=x.done
 have noA:∀b:Addr,b∉(LX CX P w K mg base N qual scope f cd A outer s H E).ex:=λb z=>absurd (show b∈([]:List Addr)from z) (by simp)
 refine⟨⟨e0.mod,S.kind,rfl,rfl,le_refl _,λy z c h1 h2=> ?_,λy hy=> ?_,λy c _ h=> ?_,λ_=>hd,Around.frames_deeper e0.frames,.inr ⟨rfl,rfl⟩,λb z=>absurd z (noA b),e0.bs,e0.bsz,λb _ _=>noA b,λb z=>absurd z (noA b),e0.funs,e0.frf⟩,
  rfl,e0.bare,Un.kept hk,⟨_,x.toInCall.ns,λi y v h1 h2 h3=> ?_⟩,λy c h=>⟨_,x.cell y c h⟩,e0.hok.fresh (le_refl _),λy c h=> ?_,λp hp=>absurd (show p∈([]:List (Addr×Obj))from hp) (by simp),e0.hok.kept hk, ?_⟩
 ·exact name_of_addr x.apart (PySem.mem_of_lookup h1) (PySem.mem_of_lookup h2)
 ·have hy:scope.names.lookup y=some .cell\/scope.names.lookup y=some .free:=hy
  rcases hy with hy|hy
  ·exact MM hy
  ·exact absurd rfl (S.nofree _ (PySem.mem_of_lookup hy))
 ·exact le_of_lt (x.above y c (PySem.mem_of_lookup h))
 ·have hi:i<vs.length:=by
   unfold start at h2
   by_cases hi:i<vs.length
   ·exact hi
   ·rw[getElem?_append_right (by simpa using hi)]at h2
    rw[List.getElem?_replicate]at h2
    split at h2<;>cases h2
  have ha:vs[i]? =some v:=by
   unfold start at h2
   rw[getElem?_append_left (by simpa using hi),getElem?_map]at h2
   cases e:vs[i]? with
   |none=>rw[e]at h2;cases h2
   |some a=>rw[e]at h2;cases h2;rfl
  obtain⟨u,hu,rv⟩:=r.get ha
  have hp:ps[i]? =some y:=by
   rw[<-S.pre,List.getElem?_take_of_lt (by omega)];exact h1
  have ndP:ps.Nodup:=by rw[<-S.pre];exact S.nd.sublist (List.take_sublist _ _)
  refine⟨u,rv, ?_⟩
  rcases S.par y (mem_of_getElem? hp)with k|k
  ·exact .inl ⟨k,HR ndP hp hu k⟩
  ·obtain⟨c,e⟩:=MM (n:=s.heap.objs.size+1) k
   refine .inr ⟨.inl k,c,e, ?_⟩
   have q:=x.cell y c e
   rw[IA ndP hp hu (by show scope.names.lookup y≠_;rw[k];decide)]at q
   exact q
 ·exact e0.hok.fresh (le_of_lt (x.above y c (PySem.mem_of_lookup h)))
 ·unfold start
  show _=N.length
  rw[length_append,length_map,length_replicate]
  omega
theorem bkZ{CX:CXT}{P:Program}{w:World}{K:FZ}{mg:Str->Option Value}{base:Heap}{k:Nat}{f:Addr}{name qual:Str}{params:Arguments}{body:List Stmt}{scope:Scope}{dV kV doc pm cdv ct oc:Value}{an od:Option Addr}
  {osl:Array (Option Value)}{N ps:List Str}{sp:Sp}(lk:K.lookup f=some ⟨oc,od,.func (fnOf name qual params body scope dV kV doc pm an cdv ct),osl⟩)(hcd:codeIn K cdv qual=true)(S:FnScope N ps scope)
  (len:∀vs H Q E,sp vs H Q E->vs.length=ps.length)
  (hbody:∀(A:Around) (outer:List Env) (s:Shared) (H:Hp) (vs:List V) (Q:VK) (E:XK),Room k (A.deeper (envOfC qual scope s.heap.objs.size f cdv))->sp vs H Q E->
   ∃t,PSs (LX CX P w K mg base N qual scope f cdv A outer s H E) body t/\t {nx:=λ_ H'=>Q .non H',rt:=Q} (start N vs) H):
  FnOk P w K mg base CX (k+1) f (fnOf name qual params body scope dV kV doc pm an cdv ct) ps sp:=by
 refine⟨len,λA outer s H args us vs Q E hr e0 hb r hsp=> ?_⟩
 have hl:=len _ _ _ _ hsp
 have KX:K.In s.heap:=e0.mod.kin.keeps λb o e=>(e0.bs b o e).1
 have lim:s.heap.NoLimit:=e0.mod.nolimit.keeps λb o e=>(e0.bs b o e).1
 have hkind:∀y∈ps.zip us,scope.names.lookup y.1=some .local\/(scope.names.lookup y.1=some .cell/\((cellsFrom (s.heap.objs.size+1) scope.names []).lookup y.1).isSome=true):=λ⟨n,v⟩ hy=>by
  rcases S.par n (of_mem_zip hy).1 with q|q
  ·exact .inl q
  ·exact .inr ⟨q,PySem.W.cellsFrom_some _ _ _ (.inl q)⟩
 refine codeAny_call_function hr.depth (KX _ _ lk) rfl S.co S.gen rfl (PySem.W.codeRec_of KX hcd) (hb _ _ _ _ ?_)
 refine wpAny_newFunctionEnv_cells S.kind hkind λenv he s1 x=> ?_
 subst he
 refine⟨lim.keeps x.toInCall.keep,codeAny_func ?_⟩
 obtain⟨t,ht,hq⟩:=hbody A outer s H vs Q E (hr.deeper _) hsp
 have I:Inv (LX CX P w K mg base N qual scope f cdv A outer s H E) [] (start N vs) H s1:=VH S hr.hd e0 hl r x
 refine wpAny_mono (ht [] s1 (start N vs) H _ I hq) (λfl s' hs=> ?_) λe s' hs=>hs
 have fin:∀ {σ':St} {H':Hp} {v:V} {u:Value},Inv (LX CX P w K mg base N qual scope f cdv A outer s H E) [] σ' H' s'->RelV v u->Q v H'->CE outer P w H s Q u s':=
  λ{σ' H' v u} J rv q=>⟨v,H',J.os,J.bare,J.base,J.hok,rv,q⟩
 cases fl with
 |ret u=>
  obtain⟨v,σ',H',J,rv,q⟩:=hs
  exact fin J rv q
 |next=>
  obtain⟨σ',H',J,q⟩:=hs
  exact fin (v:=V.non) (u:=Value.none) J rfl q
 |brk=>
  obtain⟨_,_,_,q⟩:=hs
  exact False.elim q
 |cont=>
  obtain⟨_,_,_,q⟩:=hs
  exact False.elim q
section
variable{X:Cx}{x:Str}{p pos:Pos}{e:Expr}{es:List Expr}{t:TA}{id T:String}{r:List V->Hp->VK->Prop}
noncomputable def tCB(r:List V->Hp->VK->Prop)(t:TA):TE:=fun σ H Q=>t σ H λvs H1=>r vs H1 Q
theorem B9(hc:CallR X (.builtin id) r)(hg:Gl X x)(hm:X.mg x=none)(hv:bootBuiltins x=some (.builtin id))(ha:PA X (e::es) t)(hn:x≠ "__name__":=by decide)(hdb:(x==("__debug__":Str))=false:=by decide)
  (he:starEach (e::es) X.env=(false,eval e X.env)::starEach es X.env:=by rfl)(hpl:(backTo pos (starEach es X.env)).any (·.1)=false:=by rfl):PE X (.Call (.Name x p) (e::es) [] pos) (tCB r t):=by
 intro pins s σ H Q I h
 refine wpAny_Call_Name_kw (AW I hg hm hv ?_ hn hdb)
 exact PyProof.Rows.callWith_builtin1 (thn (ha pos pins s σ H _ I h) λus s1 ⟨vs,H1,I1,r1,q1⟩=>hc pins s1 σ H1 vs us Q I1 r1 q1) he hpl
theorem K0(hc:CallR X (.type T) r)(hg:Gl X x)(hm:X.mg x=none)(hv:bootBuiltins x=some (.type T))(ha:PA X (e::es) t)(hn:x≠ "__name__":=by decide)(hdb:(x==("__debug__":Str))=false:=by decide)
  (he:starEach (e::es) X.env=(false,eval e X.env)::starEach es X.env:=by rfl)(hpl:(backTo pos (starEach es X.env)).any (·.1)=false:=by rfl):PE X (.Call (.Name x p) (e::es) [] pos) (tCB r t):=by
 intro pins s σ H Q I h
 refine wpAny_Call_Name_kw (AW I hg hm hv ?_ hn hdb)
 exact callWith_type1 (thn (ha pos pins s σ H _ I h) λus s1 ⟨vs,H1,I1,r1,q1⟩=>hc pins s1 σ H1 vs us Q I1 r1 q1) he hpl
end
end L2
namespace HT
open PySem PyProof.Rows
section
open PySem.SeqAt
open PySem.AutoSeq1 (wpAny_loadPart')
open PySem.MeetsSeq PySem.MeetsSeq2 PySem.MeetsSeq3
end
section
variable{prog:Program}{w:World}{A:Around}{E:Value->Shared->Prop}{s:Shared}
theorem cat_tup{t b:Addr}{vs ws:List Value}{Q:Value->Shared->Prop}(ht:IsTup s.heap t vs.toArray)(hb:IsTup s.heap b ws.toArray)(hv:vs≠ [])
  (h1:ws=[]->Q (.ref t) s)(h2:ws≠ []->Q (.ref s.heap.objs.size) {s with heap:=s.heap.push {cls:=.type "tuple",data:=.seq (vs++ws).toArray}})
  (hsz:vs.length+ws.length<=sizeLine):wpAny (model prog w) A (binaryOp .Add (.ref t) (.ref b)) Q E s:=by
 obtain⟨⟨cls,dd,data,sl⟩,ho,hc,n,hd⟩:=id ht
 obtain⟨⟨cls2,dd2,data2,sl2⟩,ho2,hc2,n2,hd2⟩:=id hb
 simp only at hc hd hc2 hd2
 subst hc hd hc2 hd2
 have e:vs.toArray++ws.toArray=(vs++ws).toArray:=by simp
 by_cases hw:ws=[]
 ·exact concat_meets ⟨_,ho,rfl⟩ ⟨_,ho2,rfl⟩ noFill_tuple_add seq_tuple_add PySem.F.slot_tuple_add PySem.F.entry_tuple_add (PySem.F.args_tuple_add_2 _ _)
   (tuple_addW1 t b vs.toArray ws.toArray n n2 dd dd2 sl sl2 (by simpa using hv) (by simp[hw])) ⟨ho,ho2,h1 hw⟩
 ·refine concat_meets ⟨_,ho,rfl⟩ ⟨_,ho2,rfl⟩ noFill_tuple_add seq_tuple_add PySem.F.slot_tuple_add PySem.F.entry_tuple_add (PySem.F.args_tuple_add_2 _ _)
   (tuple_addW2 t b vs.toArray ws.toArray n n2 dd dd2 sl sl2 (by simpa using hv) (by simpa using hw) (by rw[size_toArray,size_toArray];exact hsz)) ⟨ho,ho2, ?_⟩
  rw[e]
  exact h2 hw
noncomputable def sIx(n d:Nat):Option Int->Nat
 |none=>d
 |some v=>if v<0 then(v+(n:Int)).toNat else min v.toNat n
theorem sIx_none(n d:Nat):sIx n d none=d:=rfl
theorem sIx_nat(n d k:Nat):sIx n d (some (k:Int))=min k n:=by
 show(if(k:Int)<0 then((k:Int)+(n:Int)).toNat else min (k:Int).toNat n)=min k n
 rw[if_neg (by omega),Int.toNat_natCast]
theorem cuZ(n d:Nat)(hd:d<=n)(o:Option Int):sIx n d o<=n:=by
 cases o with
 |none=>exact hd
 |some v=>
  show(if v<0 then(v+(n:Int)).toNat else min v.toNat n)<=n
  by_cases hv:v<0
  ·rw[if_pos hv];omega
  ·rw[if_neg hv];exact Nat.min_le_right _ _
theorem SH(v:Int)(n d:Nat):(if v<0 then max (v+(n:Int)) 0 else min v (n:Int))=((sIx n d (some v):Nat):Int):=by
 show(if v<0 then max (v+(n:Int)) 0 else min v (n:Int))=(((if v<0 then(v+(n:Int)).toNat else min v.toNat n):Nat):Int)
 by_cases hv:v<0
 ·simp only[if_pos hv];omega
 ·simp only[if_neg hv];omega
theorem QL(lo hi:Option Int)(n:Nat):Builtin.Slice.sliceAdjust lo hi 1 (n:Int)=(((sIx n 0 lo:Nat):Int),((sIx n n hi:Nat):Int)):=by
 have h1:¬((1:Int)<0):=by omega
 unfold Builtin.Slice.sliceAdjust
 simp only[h1,if_false]
 refine Prod.ext ?_ ?_
 ·cases lo with
  |none=>rfl
  |some v=>exact SH v n 0
 ·cases hi with
  |none=>rfl
  |some v=>exact SH v n n
theorem RB(i j:Nat):Builtin.Slice.slicePlaces (i:Int) (j:Int) 1=j - i:=by
 unfold Builtin.Slice.slicePlaces
 have h1:(1:Int)>0:=by omega
 simp only[h1,if_true,Int.ediv_one]
 split<;>omega
theorem FB{v:Value}{o:Option Int}{Q:Option Int->Shared->Prop}(p:IsPart v o)(h:Q o s):wpAny (model prog w) A (Builtin.Slice.slicePartIndex v) Q E s:=by
 cases p with
 |none=>exact slicePart_none h
 |int i t=>exact slicePart_int h
theorem U5{sl:Addr}{vl vu:Value}{lo hi:Option Int}{n:Nat}{Q:Int×Int×Nat->Shared->Prop}(hs:s.heap.IsSliceOf sl vl vu .none)(pl:IsPart vl lo)(pu:IsPart vu hi)
  (h:Q (((sIx n 0 lo:Nat):Int),1,sIx n n hi - sIx n 0 lo) s):wpAny (model prog w) A (Builtin.Slice.sliceApplied (.ref sl) (pure (n:Int))) Q E s:=by
 obtain⟨os,hos,hcs,hds⟩:=id hs
 unfold Builtin.Slice.sliceApplied Builtin.Slice.sliceFields
 refine bZ (bZ (wpAny_field hos hds (x:=vl) rfl (bZ (wpAny_field hos hds (x:=vu) rfl (bZ (wpAny_field hos hds (x:=.none) rfl (pZ ?_)))))))
 refine bZ (slicePart_none ?_)
 show wpAny _ _ (if((1:Int)==0)=true then _ else _) _ _ s
 rw[if_neg (by decide)]
 refine bZ (FB pl (bZ (FB pu (bZ (pZ ?_)))))
 show wpAny _ _ (match Builtin.Slice.sliceAdjust lo hi 1 (n:Int)with|(lo,hi)=>pure (lo,(1:Int),Builtin.Slice.slicePlaces lo hi 1)) _ _ s
 rw[QL lo hi n]
 show wpAny _ _ (pure (((sIx n 0 lo:Nat):Int),(1:Int),Builtin.Slice.slicePlaces ((sIx n 0 lo:Nat):Int) ((sIx n n hi:Nat):Int) 1)) _ _ s
 rw[RB]
 exact pZ h
theorem WI(xs:Array Value)(i k:Nat):((List.range k).filterMap λ(m:Nat)=>xs[((i:Int)+(m:Int)*1).toNat]?).toArray=((xs.toList.drop i).take k).toArray:=by
 have e:(λ(m:Nat)=>xs[((i:Int)+(m:Int)*1).toNat]?)=λm=>xs[i+m]? :=by
  funext m
  have:((i:Int)+(m:Int)*1).toNat=i+m:=by omega
  rw[this]
 rw[e]
 have:=pick_run xs i k
 rw[List.filterMap_map]at this
 have e2:((λx=>xs[x]?)∘λx=>i+x)=λm=>xs[i+m]? :=rfl
 rw[e2]at this
 rw[this]
theorem getItem_tuple_cut{t sl:Addr}{items:Array Value}{vl vu:Value}{lo hi:Option Int}{Q:Value->Shared->Prop}(ht:IsTup s.heap t items)(hs:s.heap.IsSliceOf sl vl vu .none)(pl:IsPart vl lo)(pu:IsPart vu hi)
  (hw:¬(sIx items.size 0 lo=0/\sIx items.size items.size hi=items.size))
  (h:Q (.ref s.heap.objs.size) {s with heap:=s.heap.push {cls:=.type "tuple",data:=.seq ((items.toList.drop (sIx items.size 0 lo)).take (sIx items.size items.size hi - sIx items.size 0 lo)).toArray}})
  (hsz:items.size<=sizeLine):wpAny (model prog w) A (getItem (.ref t) (.ref sl)) Q E s:=by
 have htake:sizeOk (.seq ((items.toList.drop (sIx items.size 0 lo)).take (sIx items.size items.size hi - sIx items.size 0 lo)).toArray):=by
  show((items.toList.drop (sIx items.size 0 lo)).take (sIx items.size items.size hi - sIx items.size 0 lo)).toArray.size<=sizeLine
  rw[size_toArray,length_take,length_drop,Array.length_toList]
  omega
 have hj:sIx items.size items.size hi<=items.size:=cuZ _ _ (le_refl _) hi
 obtain⟨os,hos,hcs,hds⟩:=id hs
 have hTs:s.TypeIs (.ref sl) "slice":=⟨os,hos,hcs⟩
 unfold getItem
 try with_reducible refine wpAny_holding ?_
 first|refine bZ (pZ ?_)|skip
 refine bZ (wpAny_sequenceKey ht.typeIs (by decide) ?_)
 refine bZ (wpAny_callSpecial?_slot (name:=Str.ofString "__getitem__") ht.typeIs PyProof.Rows.slot_tuple_getitem
  (wpAny_call_entry PyProof.Rows.slot_tuple_getitem ht.typeIs entry_tuple_getitem ?_ (args_tuple_getitem _ _)))
 show wpAny _ _ (Builtin.Tuple.tupleItemsOf (.ref t)>>=_) _ _ s
 refine bZ (tupleItemsOf_ ht ?_)
 refine bZ (wpAny_typeOf hTs ?_)
 rw[if_pos (by decide)]
 refine bZ (U5 hs pl pu ?_)
 have hno:¬((((sIx items.size 0 lo:Nat):Int)==0&&(1:Int)==1&&(sIx items.size items.size hi - sIx items.size 0 lo)==items.size)=true):=by
  intro q
  rw[Bool.and_eq_true,Bool.and_eq_true]at q
  have q1:((sIx items.size 0 lo:Nat):Int)=0:=eq_of_beq q.1.1
  have q2:sIx items.size items.size hi - sIx items.size 0 lo=items.size:=eq_of_beq q.2
  exact hw ⟨by omega,by omega⟩
 show wpAny _ _ (if(((sIx items.size 0 lo:Nat):Int)==0&&(1:Int)==1&&(sIx items.size items.size hi - sIx items.size 0 lo)==items.size)=true then _ else _) _ _ s
 rw[if_neg hno,WI]
 first
  |exact bZ (m:=Builtin.Tuple.tupleExact _) (wpAny_newObj_type (pZ ⟨_,rfl,pZ h⟩) htake)
  |exact bZ (m:=Builtin.Tuple.tupleExact _) (wpAny_newObj_type (bZ (pZ (pZ ⟨_,rfl,pZ h⟩))) htake)
  |exact bZ (bZ (m:=Builtin.Tuple.tupleExact _) (wpAny_newObj_type (pZ (pZ ⟨_,rfl,pZ h⟩)) htake))
  |exact bZ (bZ (m:=Builtin.Tuple.tupleExact _) (wpAny_newObj_type (pZ ⟨_,rfl,pZ h⟩) htake))
end
end HT
namespace L2
open PySem PySem.Spec PyProof.Rows
noncomputable abbrev TO:=St->Hp->(Option Int->Hp->Prop)->Prop
noncomputable def PO(X:Cx)(e:Option Expr)(t:TO):Prop:=
 ∀(pins:List (Addr×Obj)) (s:Shared) (σ:St) (H:Hp) (Q:Option Int->Hp->Prop),Inv X pins σ H s->t σ H Q->
  wpAny (model X.prog X.w) X.A (evalPart e X.env) (λu s'=>∃o H',Inv X pins σ H' s'/\IsPart u o/\Q o H') X.xe s
noncomputable def ZS:TO:=λ_ H Q=>Q none H
noncomputable def dnZ(t:TE):TO:=fun σ H Q=>t σ H λx H1=>∃i,x=.int i/\Q (some i) H1
theorem QI{ns:List Int}:∀ {us:List Value},Vals (ns.map V.int) us->IntsAre us ns:=by
 induction ns with
 |nil=>intro us r;rw[map_nil]at r;cases r;exact .nil
 |cons n ns ih=>
  intro us r
  rw[map_cons]at r
  cases r with
  |cons r1 r2=>
   obtain⟨t,e⟩:=r1
   subst e
   exact .cons n t (ih r2)
section
variable{X:Cx}{e:Expr}{te:TE}{lo hi:Option Expr}{tl th:TO}{pos p2:Pos}
theorem K4:PO X none ZS:=by
 intro pins s σ H Q I h
 rw[evalPart_none]
 exact pZ ⟨none,H,I,.none,h⟩
theorem J3(h:PE X e te):PO X (some e) (dnZ te):=by
 intro pins s σ H Q I hw
 rw[evalPart_some]
 refine thn (h pins s σ H _ I hw) λu s1 ⟨x,H1,I1,r1,q1⟩=> ?_
 obtain⟨i,rfl,q⟩:=q1
 obtain⟨t,rfl⟩:=r1
 exact⟨some i,H1,I1,.int i t,q⟩
noncomputable def SlR(X:Cx)(r:V->Option Int->Option Int->Hp->VK->Prop):Prop:=
 ∀(pins:List (Addr×Obj)) (s:Shared) (σ:St) (H:Hp) (x:V) (v vl vu:Value) (lo hi:Option Int) (sl:Addr) (Q:VK),Inv X pins σ H s->RelV x v->s.heap.IsSliceOf sl vl vu .none->IsPart vl lo->IsPart vu hi->r x lo hi H Q->
  ∃T id,typeLookup (.type T) "__getitem__"=pure (some (.builtin id))/\s.TypeIs v T/\wpAny (model X.prog X.w) X.A (getItem v (.ref sl)) (EP X pins σ Q) X.xe s
theorem SlR.or{r r':V->Option Int->Option Int->Hp->VK->Prop}(h:SlR X r)(h':SlR X r'):SlR X (λx lo hi H Q=>r x lo hi H Q\/r' x lo hi H Q):=by
 intro pins s σ H x v vl vu lo hi sl Q I rx hs pl pu q
 rcases q with q|q
 ·exact h pins s σ H x v vl vu lo hi sl Q I rx hs pl pu q
 ·exact h' pins s σ H x v vl vu lo hi sl Q I rx hs pl pu q
noncomputable def tSl(r:V->Option Int->Option Int->Hp->VK->Prop)(te:TE)(tl th:TO):TE:=fun σ H Q=>te σ H λx H1=>tl σ H1 λl H2=>th σ H2 λu H3=>r x l u H3 Q
theorem G5{r:V->Option Int->Option Int->Hp->VK->Prop}(hr:SlR X r)(he:PE X e te)(hl:PO X lo tl)(hu:PO X hi th):PE X (.Subscript e (.Slice lo hi none p2) pos) (tSl r te tl th):=by
 intro pins s σ H Q I h
 refine Subscript_ (thn (he pins s σ H _ I h) λv s1 ⟨x,H1,I1,r1,q1⟩=> ?_)
 refine wpAny_Slice (thn (hl pins s1 σ H1 _ I1 q1) λvl s2 ⟨l,H2,I2,pl,q2⟩=>thn (hu pins s2 σ H2 _ I2 q2) λvu s3 ⟨u,H3,I3,pu,q3⟩=> ?_)
 rw[evalPart_none]
 refine pZ ?_
 have I4:Inv X pins σ H3 {s3 with heap:=s3.heap.push {cls:=.type "slice",data:=.fields #[vl,vu,.none]}}:=I3.kept (t':=s3.toks) λb ob q=>gZ _ q
 obtain⟨T,id,hT,ht,hg⟩:=hr pins {s3 with heap:=s3.heap.push {cls:=.type "slice",data:=.fields #[vl,vu,.none]}} σ H3 x v vl vu l u s3.heap.objs.size Q I4 r1 (Heap.IsSliceOf.new ..) pl pu q3
 show wpAny (model X.prog X.w) X.A (subscriptTail e (.Slice lo hi none p2) v (.ref s3.heap.objs.size)) (EP X pins σ Q) X.xe {s3 with heap:=s3.heap.push {cls:=.type "slice",data:=.fields #[vl,vu,.none]}}
 exact tail_any (ops:=[.ref s3.heap.objs.size,v]) ht hT hg (by with_unfolding_all rfl)
noncomputable def G9(xs:List V)(lo hi:Option Int):List V:=(xs.drop (HT.sIx xs.length 0 lo)).take (HT.sIx xs.length xs.length hi - HT.sIx xs.length 0 lo)
theorem Y3(xs:List V)(lo hi:Option Int):(G9 xs lo hi).length<=xs.length:=by
 unfold G9
 rw[length_take,length_drop]
 omega
inductive rSlT (K:FZ) (x:V) (lo:Option Int) (hi:Option Int) (H:Hp) (Q:VK):Prop
 |mk:∀a xs,(x=.ref a)->(SqT K H a xs)->(¬(HT.sIx xs.length 0 lo=0/\HT.sIx xs.length xs.length hi=xs.length))->(∀p,H p=none->Q (.ref p) (upd H p (.tup (G9 xs lo hi))))->rSlT K x lo hi H Q
theorem ckZ:SlR X (rSlT X.K):=by
 intro pins s σ H x v vl vu lo hi sl Q I rx hs pl pu h
 obtain⟨a,xs,rfl,hx,hw,q⟩:=h
 cases rx
 obtain⟨its,r,ht,hz⟩:=I.tuple hx
 have hlen:its.toArray.size=xs.length:=by rw[size_toArray];exact r.length.symm
 refine⟨"tuple",_,PyProof.Rows.slot_tuple_getitem.lookup,ht.typeIs, ?_⟩
 refine HT.getItem_tuple_cut ht hs pl pu (by rw[hlen];exact hw) ?_ (by rw[hlen];exact hz)
 rw[hlen]
 refine⟨.ref s.heap.objs.size,_,I.laid (t':=s.toks) (o:=.tup (G9 xs lo hi)) (λb ob q=>gZ _ q) (le_refl _) ?_,rfl,q _ (I.hok.fresh (le_refl _))⟩
 exact⟨le_trans (Y3 xs lo hi) hz,_,(r.drop (HT.sIx xs.length 0 lo)).take (HT.sIx xs.length xs.length hi - HT.sIx xs.length 0 lo),IsTup.new _ _⟩
noncomputable def IB(K:FZ):R2:=λx y H Q=>∃a b xs ys,x=.ref a/\y=.ref b/\SqT K H a xs/\SqT K H b ys/\xs≠ []/\xs.length+ys.length<=sizeLine/\
 (ys=[]->Q (.ref a) H)/\(ys≠ []->∀p,H p=none->Q (.ref p) (upd H p (.tup (xs++ys))))
theorem Vals.nil_iff{xs:List V}{us:List Value}(r:Vals xs us):us=[]↔xs=[]:=by
 cases r with
 |nil=>simp
 |cons _ _=>simp
theorem op_catT:OpR X (binaryOp .Add) (IB X.K):=by
 intro pins s σ H x y v u Q I rx ry h
 obtain⟨a,b,xs,ys,rfl,rfl,ha,hb,hx,hz,q1,q2⟩:=h
 cases rx
 cases ry
 obtain⟨its,r1,p1,_⟩:=I.tuple ha
 obtain⟨its2,r2,p2,_⟩:=I.tuple hb
 refine HT.cat_tup p1 p2 (λz=>hx (r1.nil_iff.mp z)) (λz=>⟨.ref a,H,I,rfl,q1 (r2.nil_iff.mp z)⟩) (λz=> ?_) (by rw[<-r1.length,<-r2.length];exact hz)
 refine⟨.ref s.heap.objs.size,_,I.laid (t':=s.toks) (o:=.tup (xs++ys)) (λb ob q=>gZ _ q) (le_refl _) ?_,rfl,q2 (λw=>z (r2.nil_iff.mpr w)) _ (I.hok.fresh (le_refl _))⟩
 exact⟨by rw[length_append];exact hz,_,r1.append r2,IsTup.new _ _⟩
end
noncomputable def ixN(n:Nat)(i:Int):Option Nat:=if 0<=i then(if i<n then some i.toNat else none)else if -(n:Int)<=i then some (i+n).toNat else none
noncomputable def atI{α:Type}(xs:List α)(i:Int):Option α:=(ixN xs.length i).bind λj=>xs[j]?
theorem SD{n:Nat}{i:Int}{j:Nat}(h:ixN n i=some j):seqIndex? i n=some j/\j<n/\ -(n:Int)<=i/\i<n:=by
 unfold ixN at h
 by_cases h0:0<=i
 ·rw[if_pos h0]at h
  by_cases h1:i<n
  ·rw[if_pos h1]at h
   have e:i.toNat=j:=Option.some.inj h
   exact⟨by rw[seqIndex_of h0 h1,e],by omega,by omega,h1⟩
  ·rw[if_neg h1]at h;cases h
 ·rw[if_neg h0]at h
  by_cases h1: -(n:Int)<=i
  ·rw[if_pos h1]at h
   have e:(i+n).toNat=j:=Option.some.inj h
   exact⟨by rw[seqIndex_neg (by omega) h1,e],by omega,h1,by omega⟩
  ·rw[if_neg h1]at h;cases h
theorem KF{α:Type}{xs:List α}{i:Int}{v:α}(h:atI xs i=some v):∃j,seqIndex? i xs.length=some j/\xs[j]? =some v/\j<xs.length/\ -(xs.length:Int)<=i/\i<xs.length:=by
 unfold atI at h
 cases e:ixN xs.length i with
 |none=>rw[e]at h;cases h
 |some j=>
  rw[e]at h
  obtain⟨h1,h2,h3,h4⟩:=SD e
  exact⟨j,h1,h,h2,h3,h4⟩
theorem C9{α:Type}{xs:List α}{j:Nat}{v:α}(h:xs[j]? =some v):atI xs (j:Int)=some v:=by
 have hj:j<xs.length:=(List.getElem?_eq_some_iff.mp h).1
 have e:ixN xs.length (j:Int)=some j:=by
  unfold ixN
  rw[if_pos (by omega),if_pos (by omega)];simp
 unfold atI;rw[e];exact h
theorem G0{α:Type}(xs:List α)(v:α):atI (xs++ [v]) (-1)=some v:=by
 have hl:(xs++ [v]).length=xs.length+1:=by simp
 have e:ixN (xs++ [v]).length (-1)=some xs.length:=by
  unfold ixN
  rw[hl,if_neg (by decide),if_pos (by omega)]
  congr 1
  omega
 unfold atI
 rw[e]
 show(xs++ [v])[xs.length]? =some v
 simp
noncomputable def SY(b:Expr):Prop:=∀o i,subscripted b false o i=operate [o,i] (getItem o i)
noncomputable def IxR(X:Cx)(r:R2):Prop:=
 ∀(value slice:Expr) (pins:List (Addr×Obj)) (s:Shared) (σ:St) (H:Hp) (x y:V) (v u:Value) (Q:VK),Inv X pins σ H s->RelV x v->RelV y u->r x y H Q->
  subscripted slice false v u=operate [v,u] (getItem v u)->wpAny (model X.prog X.w) X.A (subscriptTail value slice v u) (EP X pins σ Q) X.xe s
noncomputable def MtR(X:Cx)(id:String)(r:V->List V->Hp->VK->Prop):Prop:=
 ∀(pins:List (Addr×Obj)) (s:Shared) (σ:St) (H:Hp) (x:V) (xs:List V) (v:Value) (us:List Value) (Q:VK),Inv X pins σ H s->RelV x v->Vals xs us->r x xs H Q->
  wpAny (model X.prog X.w) X.A (call (.builtin id) (v::us)) (EP X pins σ Q) X.xe s
section
variable{X:Cx}{a b:Expr}{ta tb:TE}{pos:Pos}
theorem IxR.or{r r':R2}(h:IxR X r)(h':IxR X r'):IxR X (λx y H Q=>r x y H Q\/r' x y H Q):=by
 intro value slice pins s σ H x y v u Q I rx ry q hs
 rcases q with q|q
 ·exact h value slice pins s σ H x y v u Q I rx ry q hs
 ·exact h' value slice pins s σ H x y v u Q I rx ry q hs
theorem FE{r:R2}(hr:IxR X r)(ha:PE X a ta)(hb:PE X b tb)(hs:SY b):PE X (.Subscript a b pos) (tOp r ta tb):=by
 intro pins s σ H Q I h
 exact Subscript_ (bxZ ha hb I h λv u s2 x y H2 I2 rx ry q=>hr a b pins s2 σ H2 x y v u Q I2 rx ry q (hs _ _))
inductive rIxL (K:FZ) (x:V) (y:V) (H:Hp) (Q:VK):Prop
 |mk:∀p xs i v,(x=.ref p)->(y=.int i)->(SqL K H p xs)->(atI xs i=some v)->(Q v H)->rIxL K x y H Q
inductive rIxT (K:FZ) (x:V) (y:V) (H:Hp) (Q:VK):Prop
 |mk:∀p xs i v,(x=.ref p)->(y=.int i)->(SqT K H p xs)->(atI xs i=some v)->(Q v H)->rIxT K x y H Q
inductive rIxS (x:V) (y:V) (H:Hp) (Q:VK):Prop
 |mk:∀z i c,(x=.str z)->(y=.int i)->(z.length<=sizeLine)->(atI z.cps.toList i=some c)->(Q (.str ⟨#[c]⟩) H)->rIxS x y H Q
theorem ix_list:IxR X (rIxL X.K):=by
 intro value slice pins s σ H x y v u Q I rx ry h hs
 obtain⟨p,xs,i,z,rfl,rfl,hq,he,q⟩:=h
 cases rx
 obtain⟨t,rfl⟩:=ry
 obtain⟨its,r,pl,hz⟩:=I.list hq
 obtain⟨j,h1,h2,h3,h4,h5⟩:=KF he
 obtain⟨w,ew,rw'⟩:=r.get h2
 have hl:=r.length
 have hn:=CY
 have fin:EP X pins σ Q w s:=⟨z,H,I,rw',q⟩
 by_cases h0:0<=i
 ·have hj:i.toNat=j:=by
   rw[seqIndex_of h0 h5]at h1
   exact Option.some.inj h1
  exact item_listR pl.isList h0 (by omega) (by rw[hj];simpa using ew) fin hs
 ·have hj:(i+(its.toArray.size:Int)).toNat=j:=by
   rw[seqIndex_neg (by omega) h4]at h1
   rw[size_toArray,<-hl]
   exact Option.some.inj h1
  exact subscriptTail_builtinR (x:=w) pl.isList.typeIs slot_list_getitem.lookup
   (wpAny_getItem_list_neg (Q:=λr s'=>r=w/\EP X pins σ Q r s') pl.isList (by omega) (by rw[size_toArray]<;>omega) (by omega) (by rw[hj];simpa using ew) ⟨rfl,fin⟩) hs
theorem ix_tup:IxR X (rIxT X.K):=by
 intro value slice pins s σ H x y v u Q I rx ry h hs
 obtain⟨p,xs,i,z,rfl,rfl,hq,he,q⟩:=h
 cases rx
 obtain⟨t,rfl⟩:=ry
 obtain⟨its,r,pl,hz⟩:=I.tuple hq
 obtain⟨j,h1,h2,h3,h4,h5⟩:=KF he
 obtain⟨w,ew,rw'⟩:=r.get h2
 have hl:=r.length
 have hn:=CY
 have fin:EP X pins σ Q w s:=⟨z,H,I,rw',q⟩
 exact subscriptTail_builtinR (x:=w) pl.typeIs slot_tuple_getitem.lookup
  (getItem_tuple (j:=j) (Q:=λr s'=>r=w/\EP X pins σ Q r s') pl (by omega) (by omega) (by rw[size_toArray,<-hl];exact h1) (by simpa using ew) ⟨rfl,fin⟩) hs
theorem ix_str:IxR X rIxS:=by
 intro value slice pins s σ H x y v u Q I rx ry h hs
 obtain⟨z,i,c,rfl,rfl,hz,he,q⟩:=h
 obtain⟨t,rfl⟩:=rx
 obtain⟨t',rfl⟩:=ry
 obtain⟨j,h1,h2,h3,h4,h5⟩:=KF he
 have hl:z.cps.toList.length=z.length:=by simp[Str.length]
 rw[hl]at h1 h4 h5
 have hn:=CY
 exact tail_any (typeIs_str s z t) slot_str_getitem.lookup (getItem_str (c:=c) (by
  have e1:decide (i< -(2^63:Int))=false:=decide_eq_false (by omega)
  have e2:decide (i≥2^63)=false:=decide_eq_false (by omega)
  rw[e1,e2,Bool.or_false]) (by rw[h1];simpa using h2) ⟨.str ⟨#[c]⟩,H,I.tok _,⟨_,rfl⟩,q⟩) hs
theorem PY(its:List Value)(n j:Nat)(u:Value):Obj.mapSeq (·.setIfInBounds j u) {cls:=.type "list",data:=.seq its.toArray n}={cls:=.type "list",data:=.seq (its.set j u).toArray n}:=by
 simp[Obj.mapSeq]
theorem Inv.lst{pins:List (Addr×Obj)}{σ:St}{H:Hp}{s:Shared}{p:Addr}{xs:List V}(I:Inv X pins σ H s)(h:H p=some (.lst xs)):
  ∃(its:List Value) (n:Nat),Vals xs its/\s.heap.get? p=some {cls:=.type "list",data:=.seq its.toArray n}/\xs.length<=sizeLine:=by
 obtain⟨z,its,n,r,e⟩:=I.hok p _ h
 exact⟨its,n,r,e,z⟩
theorem Inv.lstUpd{pins:List (Addr×Obj)}{σ:St}{H:Hp}{s:Shared}{p:Addr}{xs ys:List V}{its its':List Value}{n n':Nat}{f:Obj->Obj}(I:Inv X pins σ H s)(h:H p=some (.lst xs))
  (ho:s.heap.get? p=some {cls:=.type "list",data:=.seq its.toArray n})(hf:f {cls:=.type "list",data:=.seq its.toArray n}={cls:=.type "list",data:=.seq its'.toArray n'})(r:Vals ys its')(hz:ys.length<=sizeLine)(t:Nat):
  Inv X pins σ (upd H p (.lst ys)) {s with heap:=s.heap.update p f,toks:=t}:=by
 have e:(s.heap.update p f).get? p=some {cls:=.type "list",data:=.seq its'.toArray n'}:=by
  rw[Heap.get?_update_self f ho (by rw[hf]<;>rfl),hf]
 refine I.write (x:=p) (e:=p) (by rw[h];trivial) (.inl rfl) (λb u hb q=>(Heap.get?_update_other _ _ (Ne.symm hb)).trans q) ⟨_,e⟩ ?_
 exact⟨hz,its',n',r,e⟩
inductive rSetL (o:V) (i:V) (v:V) (H:Hp) (Q:Hp->Prop):Prop
 |mk:∀p xs k j,(o=.ref p)->(i=.int k)->(H p=some (.lst xs))->(ixN xs.length k=some j)->(Q (upd H p (.lst (xs.set j v))))->rSetL o i v H Q
theorem S8:bAZ X rSetL:=by
 intro pins s σ H o i v ov iv u Q I ro ri rv h
 obtain⟨p,xs,k,j,rfl,rfl,hp,hj,q⟩:=h
 cases ro
 obtain⟨t,rfl⟩:=ri
 obtain⟨its,n,r,ho,hz⟩:=I.lst hp
 obtain⟨h1,h2,h3,h4⟩:=SD hj
 have hl:=r.length
 have hn:=CY
 have I':Inv X pins σ (upd H p (.lst (xs.set j v))) {s with heap:=s.heap.update p (Obj.mapSeq (·.setIfInBounds j u))}:=
  I.lstUpd hp ho (PY its n j u) (r.set rv j) (by rw[List.length_set];exact hz) s.toks
 by_cases h0:0<=k
 ·have hk:k.toNat=j:=by
   rw[seqIndex_of h0 h4]at h1
   exact Option.some.inj h1
  exact PySem.W.ki_setAt ho h0 (by omega) (by rw[size_toArray,<-hl];exact h4) (by rw[hk];exact⟨_,I',q⟩)
 ·have hk:(k+(its.toArray.size:Int)).toNat=j:=by
   rw[seqIndex_neg (by omega) h3]at h1
   rw[size_toArray,<-hl]
   exact Option.some.inj h1
  exact PySem.W.ki_setBack ho (by omega) (by rw[size_toArray,<-hl];exact h3) (by omega) (by rw[hk];exact⟨_,I',q⟩)
theorem JO(lo hi:Option Int)(n:Nat):(sliceBounds lo hi none n).1=((HT.sIx n 0 lo:Nat):Int)/\(sliceBounds lo hi none n).2.1=((HT.sIx n n hi:Nat):Int)/\(sliceBounds lo hi none n).2.2=1:=by
 refine⟨?_, ?_,rfl⟩
 ·cases lo with
  |none=>simp[sliceBounds,HT.sIx]
  |some i=>
   simp only[sliceBounds,HT.sIx,Option.getD_none,show(1:Int)>0 by decide,if_true]
   by_cases h:i<0
   ·simp only[h,if_true]<;>omega
   ·simp only[h,if_false]<;>omega
 ·cases hi with
  |none=>simp[sliceBounds,HT.sIx]
  |some i=>
   simp only[sliceBounds,HT.sIx,Option.getD_none,show(1:Int)>0 by decide,if_true]
   by_cases h:i<0
   ·simp only[h,if_true]<;>omega
   ·simp only[h,if_false]<;>omega
theorem HE(its:List Value)(lo hi:Option Int):slicePick its.toArray lo hi none=((its.drop (HT.sIx its.length 0 lo)).take (HT.sIx its.length its.length hi - HT.sIx its.length 0 lo)).toArray:=by
 obtain⟨h1,h2,h3⟩:=JO lo hi its.toArray.size
 unfold slicePick
 rw[h1,h2,h3]
 simp only[sliceRange_one,pick_run,size_toArray]<;>rfl
inductive rSlL (K:FZ) (x:V) (lo:Option Int) (hi:Option Int) (H:Hp) (Q:VK):Prop
 |mk:∀a xs,(x=.ref a)->(SqL K H a xs)->(∀p,H p=none->Q (.ref p) (upd H p (.lst (G9 xs lo hi))))->rSlL K x lo hi H Q
theorem sl_list:SlR X (rSlL X.K):=by
 intro pins s σ H x v vl vu lo hi sl Q I rx hs pl pu h
 obtain⟨a,xs,rfl,hx,q⟩:=h
 cases rx
 obtain⟨its,r,ht,hz⟩:=I.list hx
 have hlen:=r.length
 refine⟨"list",_,slot_list_getitem.lookup,ht.isList.typeIs, ?_⟩
 refine wpAny_getItem_list_slice ht.isList hs pl pu .none (by simp) ?_ (by rw[size_toArray]<;>omega)
 rw[HE,<-hlen]
 refine⟨.ref s.heap.objs.size,_,I.laid (t':=s.toks) (o:=.lst (G9 xs lo hi)) (λb ob q=>gZ _ q) (le_refl _) ?_,rfl,q _ (I.hok.fresh (le_refl _))⟩
 exact⟨le_trans (Y3 xs lo hi) hz,_,0,(r.drop (HT.sIx xs.length 0 lo)).take (HT.sIx xs.length xs.length hi - HT.sIx xs.length 0 lo),get?_push_size _ rfl⟩
noncomputable def T3:V->Bool
 | .non=>true
 | .bl _=>true
 | .int _=>true
 | .str _=>true
 |_=>false
noncomputable def eqV:V->V->Bool
 | .non,.non=>true
 | .bl a,.bl b=>a==b
 | .bl a,.int b=>(if a then 1 else 0)==b
 | .int a,.bl b=>a==(if b then 1 else 0)
 | .int a,.int b=>a==b
 | .str a,.str b=>a==b
 |_,_=>false
theorem ZA{A:Around}{s:Shared}{y x:V}{u v:Value}(ry:RelV y u)(rx:RelV x v)(fy:T3 y=true)(fx:T3 x=true):SeqAt.EqAt A s u v (eqV y x):=by
 cases y with
 |non=>
  cases ry
  cases x with
  |non=>cases rx;exact SeqAt.EqAt.same _
  |bl b=>cases rx;exact SeqAt.EqAt.none_bool b
  |int b=>obtain⟨t,rfl⟩:=rx;exact SeqAt.EqAt.none_int b t
  |str b=>obtain⟨t,rfl⟩:=rx;exact SeqAt.EqAt.none_str b t
  |_=>exact absurd (show false=true from fx) nZ
 |bl a=>
  cases ry
  cases x with
  |non=>cases rx;exact SeqAt.EqAt.bool_none a
  |bl b=>cases rx;exact SeqAt.EqAt.bool_bool a b
  |int b=>obtain⟨t,rfl⟩:=rx;exact SeqAt.EqAt.bool_int a b t
  |str b=>obtain⟨t,rfl⟩:=rx;exact SeqAt.EqAt.bool_str a b t
  |_=>exact absurd (show false=true from fx) nZ
 |int a=>
  obtain⟨t',rfl⟩:=ry
  cases x with
  |non=>cases rx;exact SeqAt.EqAt.int_none a t'
  |bl b=>cases rx;exact SeqAt.EqAt.int_bool a t' b
  |int b=>obtain⟨t,rfl⟩:=rx;exact SeqAt.EqAt.int_int a t' b t
  |str b=>obtain⟨t,rfl⟩:=rx;exact SeqAt.EqAt.int_str a t' b t
  |_=>exact absurd (show false=true from fx) nZ
 |str a=>
  obtain⟨t',rfl⟩:=ry
  cases x with
  |non=>cases rx;exact SeqAt.EqAt.str_none a t'
  |bl b=>cases rx;exact SeqAt.EqAt.str_bool a t' b
  |int b=>obtain⟨t,rfl⟩:=rx;exact SeqAt.EqAt.str_int a t' b t
  |str b=>obtain⟨t,rfl⟩:=rx;exact SeqAt.EqAt.str_str a t' b t
  |_=>exact absurd (show false=true from fx) nZ
 |_=>exact absurd (show false=true from fy) nZ
noncomputable def eqU(x:V)(u:Value):Bool:=match u with
 | .none=>eqV .non x
 | .bool b=>eqV (.bl b) x
 | .int i _=>eqV (.int i) x
 | .str z _=>eqV (.str z) x
 |_=>false
theorem XM{x y:V}{u:Value}(r:RelV y u)(f:T3 y=true):eqU x u=eqV y x:=by
 cases y with
 |non=>cases r;rfl
 |bl b=>cases r;rfl
 |int i=>obtain⟨t,rfl⟩:=r;rfl
 |str z=>obtain⟨t,rfl⟩:=r;rfl
 |_=>exact absurd (show false=true from f) nZ
theorem BO{x:V}:∀ {xs:List V} {us:List Value},Vals xs us->xs.all T3=true->us.any (eqU x)=xs.any λy=>eqV y x
 |_,_,.nil,_=>rfl
 |y::xs,u::us,.cons r t,f=>by
  rw[List.all_cons,Bool.and_eq_true]at f
  rw[any_cons,any_cons,XM r f.1,BO t f.2]
theorem Y0{A:Around}{s:Shared}{x:V}{v:Value}(rx:RelV x v)(fx:T3 x=true):∀ {xs:List V} {us:List Value},Vals xs us->xs.all T3=true->∀u∈us,SeqAt.EqAt A s u v (eqU x u)
 |_,_,.nil,_=>λu hu=>by cases hu
 |y::xs,u::us,.cons r t,f=>λu' hu=>by
  rw[List.all_cons,Bool.and_eq_true]at f
  rcases cZ hu with rfl|hu
  ·rw[XM r f.1];exact ZA r rx f.1 fx
  ·exact Y0 rx fx t f.2 u' hu
noncomputable def inV(x:V)(xs:List V):Bool:=xs.any λy=>eqV y x
inductive rIn (K:FZ) (neg:Bool) (x:V) (y:V) (H:Hp) (Q:VK):Prop
 |mk:∀p xs,(y=.ref p)->((SqL K H p xs\/SqT K H p xs))->(T3 x=true)->(xs.all T3=true)->(Q (.bl (if neg then !inV x xs else inV x xs)) H)->rIn K neg x y H Q
theorem op_in_seq:OpR X (compareOp .In) (rIn X.K false):=by
 intro pins s σ H x y v u Q I rx ry h
 obtain⟨p,xs,rfl,hq,fx,fs,q⟩:=h
 cases ry
 rcases hq with hq|hq
 ·obtain⟨its,r,pl,hz⟩:=I.list hq
  refine SeqAt.in_listAt (eqU x) pl.isList (λw hw=>Y0 rx fx r fs w (by simpa using hw)) ⟨.bl _,H,I,rfl, ?_⟩
  rw[show its.toArray.any (eqU x)=its.any (eqU x) by simp,BO r fs]
  exact q
 ·obtain⟨its,r,pl,hz⟩:=I.tuple hq
  refine SeqAt.in_tupleAt (eqU x) pl (λw hw=>Y0 rx fx r fs w (by simpa using hw)) ⟨.bl _,H,I,rfl, ?_⟩
  rw[show its.toArray.any (eqU x)=its.any (eqU x) by simp,BO r fs]
  exact q
theorem JU:OpR X (compareOp .NotIn) (rIn X.K true):=by
 intro pins s σ H x y v u Q I rx ry h
 obtain⟨p,xs,rfl,hq,fx,fs,q⟩:=h
 cases ry
 rcases hq with hq|hq
 ·obtain⟨its,r,pl,hz⟩:=I.list hq
  refine SeqAt.notIn_listAt (eqU x) pl.isList (λw hw=>Y0 rx fx r fs w (by simpa using hw)) ⟨.bl _,H,I,rfl, ?_⟩
  rw[show its.toArray.any (eqU x)=its.any (eqU x) by simp,BO r fs]
  exact q
 ·obtain⟨its,r,pl,hz⟩:=I.tuple hq
  refine SeqAt.notIn_tupleAt (eqU x) pl (λw hw=>Y0 rx fx r fs w (by simpa using hw)) ⟨.bl _,H,I,rfl, ?_⟩
  rw[show its.toArray.any (eqU x)=its.any (eqU x) by simp,BO r fs]
  exact q
theorem op_notIn_str:OpR X (compareOp .NotIn) (λx y H Q=>∃i j,x=.str i/\y=.str j/\Q (.bl (!(!(Builtin.Str.occurrences j i 0 j.length 1).isEmpty))) H):=by
 intro pins s σ H x y v u Q I rx ry h
 obtain⟨i,j,rfl,rfl,q⟩:=h
 obtain⟨t,rfl⟩:=rx
 obtain⟨t',rfl⟩:=ry
 exact notIn_str ⟨.bl _,H,I,rfl,q⟩
theorem CallR.or{f:Value}{r r':List V->Hp->VK->Prop}(h:CallR X f r)(h':CallR X f r'):CallR X f (λxs H Q=>r xs H Q\/r' xs H Q):=by
 intro pins s σ H xs us Q I rs q
 rcases q with q|q
 ·exact h pins s σ H xs us Q I rs q
 ·exact h' pins s σ H xs us Q I rs q
theorem JN:CallR X (.type "list") (λxs H Q=>∃p ys,xs=[.ref p]/\(SqL X.K H p ys\/SqT X.K H p ys)/\∀l,H l=none->Q (.ref l) (upd H l (.lst ys))):=by
 intro pins s σ H xs us Q I r h
 obtain⟨p,ys,rfl,hq,q⟩:=h
 obtain⟨u,rfl,rx⟩:=BA r
 cases rx
 have fin:∀(its:List Value),Vals ys its->ys.length<=sizeLine->∀(h':Heap) (c':Nat),(∀b o',s.heap.get? b=some o'->h'.get? b=some o')->
   h'.get? s.heap.objs.size=some {cls:=.type "list",dict:=none,data:=.seq its.toArray c',slots:= #[]}->EP X pins σ Q (.ref s.heap.objs.size) {s with heap:=h'}:=λits r' hz h' c' kp e=>
  ⟨.ref s.heap.objs.size,_,I.laid (t':=s.toks) kp (le_refl _) (show ObjOk X.prog X.w _ h' _ (.lst ys)from⟨hz,its,c',r',e⟩),rfl,q _ (I.hok.fresh (le_refl _))⟩
 rcases hq with hq|hq
 ·obtain⟨its,r',pl,hz⟩:=I.list hq
  have hlen:=r'.length
  obtain⟨o,ho,hc,n,hd⟩:=pl.isList
  exact call_list_seq p (.inl rfl) ho hc hd (λh' c' kp e=>fin its r' hz h' c' kp e) (by simp only[size_toArray]<;>omega)
 ·obtain⟨its,r',pl,hz⟩:=I.tuple hq
  have hlen:=r'.length
  obtain⟨o,ho,hc,n,hd⟩:=pl
  exact call_list_seq p (.inr rfl) ho hc hd (λh' c' kp e=>fin its r' hz h' c' kp e) (by simp only[size_toArray]<;>omega)
theorem HC:CallR X (.type "tuple") (λxs H Q=>∃p ys,xs=[.ref p]/\((SqL X.K H p ys/\∀l,H l=none->Q (.ref l) (upd H l (.tup ys)))\/(SqT X.K H p ys/\Q (.ref p) H))):=by
 intro pins s σ H xs us Q I r h
 obtain⟨p,ys,rfl,h⟩:=h
 obtain⟨u,rfl,rx⟩:=BA r
 cases rx
 rcases h with⟨hq,q⟩|⟨hq,q⟩
 ·obtain⟨its,r',pl,hz⟩:=I.list hq
  have hlen:=r'.length
  refine call_tuple_list pl.isList (λh' kp=> ?_) (by simp only[size_toArray]<;>omega)
  have I1:Inv X pins σ H {s with heap:=h'}:=I.kept (t':=s.toks) kp
  have I2:Inv X pins σ (upd H h'.objs.size (.tup ys)) {s with heap:=h'.push {cls:=.type "tuple",data:=.seq its.toArray}}:=
   I1.laid (t':=s.toks) (λb o e=>gZ _ e) (le_refl _) (show ObjOk X.prog X.w _ _ _ (.tup ys)from⟨hz,its,r',IsTup.new _ _⟩)
  exact⟨.ref h'.objs.size,_,I2,rfl,q _ (I1.hok.fresh (le_refl _))⟩
 ·obtain⟨its,r',pl,hz⟩:=I.tuple hq
  exact call_tuple_same pl ⟨.ref p,H,I,rfl,q⟩
noncomputable def tyV(K:FZ)(T:String)(x:V)(H:Hp):Prop:=match x with
 | .str _=>T="str"
 | .int _=>T="int"
 | .ref p=>(T="list"/\∃xs,SqL K H p xs)\/(T="tuple"/\∃o,K.lookup p=some o/\o.cls=.type "tuple"/\o.dict=none)\/
   (T="dict"/\((∃kvs,H p=some (.dK kvs))\/∃kvs,H p=some (.dT kvs)))\/(T="set"/\∃S n,H p=some (.set S n))
 |_=>False
theorem YH{pins:List (Addr×Obj)}{σ:St}{H:Hp}{s:Shared}{T:String}{x:V}{v:Value}(I:Inv X pins σ H s)(r:RelV x v)(ty:tyV X.K T x H):
  s.TypeIs v T/\∀a,v=.ref a->∃ob,s.heap.get? a=some ob/\ob.dict=none:=by
 cases x with
 |str z=>
  obtain⟨t,rfl⟩:=r
  cases(show T="str"from ty)
  exact⟨typeIs_str s z t,λ_ e=>nomatch e⟩
 |int i=>
  obtain⟨t,rfl⟩:=r
  cases(show T="int"from ty)
  exact⟨typeIs_int s i t,λ_ e=>nomatch e⟩
 |ref p=>
  cases r
  rcases ty with⟨rfl,xs,hq⟩|⟨rfl,o,hk,hc,hd⟩|⟨rfl,hk⟩|⟨rfl,S,n,hk⟩
  ·obtain⟨its,_,pl,_⟩:=I.list hq
   refine⟨pl.isList.typeIs,λa e=> ?_⟩
   cases e
   obtain⟨o,n,e,c,hd,_⟩:=pl
   exact⟨o,e,hd⟩
  ·refine⟨⟨o,I.kIn p o hk,hc⟩,λa e=> ?_⟩
   cases e
   exact⟨o,I.kIn _ o hk,hd⟩
  ·have z:∃o,s.heap.get? p=some o/\o.ExactDict:=by
    rcases hk with⟨kvs,hk⟩|⟨kvs,hk⟩
    ·obtain⟨_,_,_,_,o,_,_,e,ex,_⟩:=I.hok p _ hk
     exact⟨o,e,ex⟩
    ·obtain⟨_,_,_,_,o,_,_,e,ex,_⟩:=I.hok p _ hk
     exact⟨o,e,ex⟩
   obtain⟨o,e,ex⟩:=z
   refine⟨⟨o,e,ex.1⟩,λa e2=> ?_⟩
   cases e2
   exact⟨o,e,ex.2.1⟩
  ·obtain⟨o,_,_,_,e,ex,_⟩:=I.hok p _ hk
   refine⟨⟨o,e,ex.1⟩,λa e2=> ?_⟩
   cases e2
   exact⟨o,e,ex.2.1⟩
 |_=>exact False.elim ty
noncomputable def c3Z(K:FZ)(T:String)(r:V->List V->Hp->VK->Prop)(to:TE):TE:=fun σ H Q=>to σ H λx H1=>tyV K T x H1/\r x [] H1 Q
noncomputable def tBM(K:FZ)(T:String)(r:V->List V->Hp->VK->Prop)(to:TE)(t:TA):TE:=fun σ H Q=>to σ H λx H1=>tyV K T x H1/\t σ H1 λxs H2=>r x xs H2 Q
variable{o e:Expr}{es:List Expr}{to:TE}{t:TA}{name:Str}{apos cpos:Pos}{T id:String}{r:V->List V->Hp->VK->Prop}
theorem b1Z(pa:PlainAttrs T)(slot:Slot T name id)(hty:typeOf (.builtin id)=pure (.type "method_descriptor"))(hm:MtR X id r)(ho:PE X o to)
  (hbase:attributeBase o name X.env (eval o X.env)=eval o X.env:=by rfl)(hline:(apos.endLine==cpos.line)=true:=by rfl):PE X (.Call (.Attribute o name apos) [] [] cpos) (c3Z X.K T r to):=by
 intro pins s σ H Q I h
 refine wpAny_Call_method0_late hbase hline (thn (ho pins s σ H _ I h) λv s1 ⟨x,H1,I1,r1,ty,q1⟩=> ?_)
 obtain⟨h1,h2⟩:=YH I1 r1 ty
 exact⟨T,id,pa,slot,hty,h1,h2,Calls.callWith_builtin rfl (PySem.evalArgs_none (hm pins s1 σ H1 x [] v [] Q I1 r1 .nil q1))⟩
theorem dhZ(pa:PlainAttrs T)(slot:Slot T name id)(hty:typeOf (.builtin id)=pure (.type "method_descriptor"))(hm:MtR X id r)(ho:PE X o to)(ha:PA X (e::es) t)
  (hbase:attributeBase o name X.env (eval o X.env)=eval o X.env:=by rfl)
  (hfew:((backTo cpos (starEach (e::es) X.env)).all (λx=> !x.1)&&(backToKw cpos (keywordEach [] X.env)).all (λx=>x.1.isSome)
   &&decide ((e::es).length+([]:List Keyword).length+(if([]:List Keyword).isEmpty then 0 else 1)<30))=true:=by rfl)
  (hline:(apos.endLine==cpos.line)=true:=by rfl)(hs:starEach (e::es) X.env=(false,eval e X.env)::starEach es X.env:=by rfl)(hplain:(backTo cpos (starEach es X.env)).any (·.1)=false:=by rfl):
  PE X (.Call (.Attribute o name apos) (e::es) [] cpos) (tBM X.K T r to t):=by
 intro pins s σ H Q I h
 refine wpAny_Call_method_late hbase hfew hline rfl (thn (ho pins s σ H _ I h) λv s1 ⟨x,H1,I1,r1,ty,q1⟩=> ?_)
 obtain⟨h1,h2⟩:=YH I1 r1 ty
 refine⟨T,id,pa,slot,hty,h1,h2, ?_⟩
 have hA:=ha cpos pins s1 σ H1 _ I1 q1
 rw[hs]at hA⊢
 refine Calls.callWith_builtin (by show(false||(backTo cpos (starEach es X.env)).any (·.1))=false;rw[hplain]<;>rfl) (Calls.evalArgs_plain ?_)
 exact thn hA λus s2 ⟨vs,H2,I2,r2,q2⟩=>hm pins s2 σ H2 x vs v us Q I2 r1 r2 q2
end
noncomputable def MtM(X:Cx)(id:String)(r:V->List V->Hp->VK->Prop):Prop:=
 ∀(pins:List (Addr×Obj)) (s:Shared) (σ:St) (H:Hp) (x:V) (xs:List V) (v:Value) (us:List Value) (Q:VK),Inv X pins σ H s->RelV x v->Vals xs us->r x xs H Q->
  wpAny (model X.prog X.w) X.A (call (.builtin id) (v::us)) (EP X pins σ Q) X.xe s
theorem Vals.one:∀ {x:V} {us:List Value},Vals [x] us->∃u,us=[u]/\RelV x u
 |_,_,.cons r .nil=>⟨_,rfl,r⟩
theorem Vals.zero:∀ {us:List Value},Vals [] us->us=[]
 |_,.nil=>rfl
theorem Vals.dropLast{xs:List V}{us:List Value}(h:Vals xs us):Vals xs.dropLast us.dropLast:=by
 induction h with
 |nil=>exact .nil
 |cons r t ih=>
  cases t with
  |nil=>exact .nil
  |cons q t'=>exact .cons r ih
theorem Vals.reverse{xs:List V}{us:List Value}(h:Vals xs us):Vals xs.reverse us.reverse:=by
 induction h with
 |nil=>exact .nil
 |cons r t ih=>rw[reverse_cons,reverse_cons];exact Vals.append ih (.cons r .nil)
theorem Vals.rep{xs:List V}{us:List Value}(h:Vals xs us):∀k:Nat,Vals (List.replicate k xs).flatten (List.replicate k us).flatten
 |0=> .nil
 |k+1=>by
  rw[replicate_succ,replicate_succ,flatten_cons,flatten_cons]
  exact Vals.append h (Vals.rep h k)
theorem QO{α:Type}(l:List α):l.eraseIdx (l.length - 1)=l.dropLast:=by
 induction l with
 |nil=>rfl
 |cons a r ih=>
  cases r with
  |nil=>rfl
  |cons b r=>
   have e:(a::b::r).length - 1=((b::r).length - 1)+1:=by
    have h1:(a::b::r).length=r.length+2:=rfl
    have h2:(b::r).length=r.length+1:=rfl
    omega
   rw[e,List.eraseIdx_cons_succ,ih]
   all_goals rfl
theorem foldl_rep(its:List Value):∀(k:Nat) (acc:List Value),
  List.foldl (λx1 x2=>x1++x2) acc.toArray (List.replicate k its.toArray)=(acc++(List.replicate k its).flatten).toArray
 |0,acc=>by simp
 |k+1,acc=>by
  have e:acc.toArray++its.toArray=(acc++its).toArray:=by simp
  have e2:(acc++its)++(List.replicate k its).flatten=acc++(List.replicate (k+1) its).flatten:=by
   rw[replicate_succ,flatten_cons,List.append_assoc]
  rw[<-e2,<-foldl_rep its k (acc++its),<-e,replicate_succ,List.foldl_cons]
section
variable{X:Cx}{pins:List (Addr×Obj)}{σ:St}{H:Hp}{s:Shared}{l b:Addr}{xs ys zs:List V}
theorem Inv.lset{its its':List Value}{n:Nat}{f:Array Value->Array Value}{t':Nat}(I:Inv X pins σ H s)(hH:H l=some (.lst xs))
  (e:s.heap.get? l=some {cls:=.type "list",data:=.seq its.toArray n})(hf:f its.toArray=its'.toArray)(hv:Vals ys its')(hz:ys.length<=sizeLine):
  Inv X pins σ (upd H l (.lst ys)) {s with heap:=s.heap.update l (Obj.mapSeq f),toks:=t'}:=by
 have q:=PySem.IsL.update e f
 rw[hf]at q
 refine I.write (x:=l) (e:=l) (by rw[hH];exact trivial) (.inl rfl) (λb' u hb hu=>(Heap.get?_update_other s.heap (Obj.mapSeq f) (Ne.symm hb)).trans hu) ⟨_,q⟩ ?_
 exact⟨hz,its',_,hv,q⟩
theorem Inv.lnew{its:List Value}{t':Nat}(I:Inv X pins σ H s)(hv:Vals ys its)(hz:ys.length<=sizeLine):
  Inv X pins σ (upd H s.heap.objs.size (.lst ys)) {s with heap:=s.heap.push {cls:=.type "list",data:=.seq its.toArray},toks:=t'}:=
 I.laid (λ_ _ q=>gZ _ q) (le_refl _) ⟨hz,its,0,hv,get?_push_size _ rfl⟩
theorem Inv.fresh(I:Inv X pins σ H s):H s.heap.objs.size=none:=I.hok.fresh (le_refl _)
theorem Inv.lstM(I:Inv X pins σ H s)(hH:H l=some (.lst xs)):xs.length<=sizeLine/\∃(its:List Value) (n:Nat),Vals xs its/\xs.length=its.length/\s.heap.get? l=some {cls:=.type "list",data:=.seq its.toArray n}:=by
 obtain⟨z,its,n,r,e⟩:=I.hok l _ hH
 exact⟨z,its,n,r,r.length,e⟩
theorem MI{n:Nat}(h:n<=sizeLine):Builtin.List.listTooLong n=false:=by
 unfold Builtin.List.listTooLong
 exact decide_eq_false (by omega)
inductive rAppend(x:V)(vs:List V)(H:Hp)(Q:VK):Prop
 |mk:∀l xs y,(x=.ref l)->(vs=[y])->(H l=some (.lst xs))->(xs.length<sizeLine)->(Q .non (upd H l (.lst (xs++ [y]))))->rAppend x vs H Q
theorem C3:MtM X "list.append" rAppend:=by
 intro pins s σ H x vs v us Q I rx rv h
 obtain⟨l,xs,y,rfl,rfl,hH,hz,q⟩:=h
 cases rx
 obtain⟨u,rfl,ru⟩:=rv.one
 obtain⟨z,its,n,r,hl,e⟩:=I.lstM hH
 refine call_meets F.slot_list_append ⟨_,e,rfl⟩ F.entry_list_append (F.args_list_append_2 _ _) (PySem.list_append l its.toArray n u (by rw[size_toArray];omega)) ⟨e, ?_⟩
 refine⟨.non,_,I.lset (its':=its++ [u]) hH e (by simp) (r.append (.cons ru .nil)) ?_,rfl,q⟩
 rw[length_append,length_singleton]
 omega
noncomputable def ahZ:V->List V->Hp->VK->Prop:=λx vs H Q=>∃l b xs zs,x=.ref l/\vs=[.ref b]/\H l=some (.lst xs)/\H b=some (.lst zs)/\xs.length+zs.length<=sizeLine/\Q .non (upd H l (.lst (xs++zs)))
theorem VM:MtM X "list.extend" ahZ:=by
 intro pins s σ H x vs v us Q I rx rv h
 obtain⟨l,b,xs,zs,rfl,rfl,hH,hB,hz,q⟩:=h
 cases rx
 obtain⟨u,rfl,ru⟩:=rv.one
 cases ru
 obtain⟨z,its,n,r,hl,e⟩:=I.lstM hH
 obtain⟨z2,its2,n2,r2,hl2,e2⟩:=I.lstM hB
 have hsz:its.toArray.size+its2.toArray.size<=sizeLine:=by rw[size_toArray,size_toArray];omega
 have hlong:¬(!its.toArray.isEmpty&&Builtin.List.listTooLong (its.toArray.size+its2.toArray.size))=true:=by
  rw[MI hsz,Bool.and_false]
  exact nZ
 refine call_meets F.slot_list_extend ⟨_,e,rfl⟩ F.entry_list_extend (F.args_list_extend_2 _ _)
  (AutoSeq1.list_extend_list_list_0 l its.toArray n b its2.toArray n2 hlong (by rw[size_toArray];omega) (by omega)) ⟨e,e2, ?_⟩
 refine⟨.non,_,I.lset (its':=its++its2) hH e (by simp) (r.append r2) ?_,rfl,q⟩
 rw[length_append]
 omega
inductive rPop (x:V) (vs:List V) (H:Hp) (Q:VK):Prop
 |mk:∀l xs y,(x=.ref l)->(vs=[])->(H l=some (.lst xs))->(xs[xs.length - 1]? =some y)->(Q y (upd H l (.lst xs.dropLast)))->rPop x vs H Q
theorem FC:MtM X "list.pop" rPop:=by
 intro pins s σ H x vs v us Q I rx rv h
 obtain⟨l,xs,y,rfl,rfl,hH,hy,q⟩:=h
 cases rx
 have hus:=rv.zero
 subst hus
 obtain⟨z,its,n,r,hl,e⟩:=I.lstM hH
 obtain⟨u,hu,ru⟩:=r.get hy
 have hy':its.toArray[its.toArray.size - 1]? =some u:=by
  show its.toArray[its.length - 1]? =some u
  rw[<-Array.getElem?_toList,<-hl]
  exact hu
 refine call_meets F.slot_list_pop ⟨_,e,rfl⟩ F.entry_list_pop (F.args_list_pop_1 _) (MeetsSeq.list_pop_last l its.toArray n u hy' (by rw[size_toArray];omega)) ⟨e, ?_⟩
 refine⟨y,_,I.lset (its':=its.dropLast) hH e ?_ r.dropLast ?_,ru,q⟩
 ·show its.toArray.eraseIdxIfInBounds (its.toArray.size - 1)=its.dropLast.toArray
  rw[size_toArray,List.eraseIdxIfInBounds_toArray,QO]
 ·rw[List.length_dropLast]
  omega
noncomputable def bQZ:V->List V->Hp->VK->Prop:=λx vs H Q=>∃l xs,x=.ref l/\vs=[]/\H l=some (.lst xs)/\Q .non (upd H l (.lst []))
theorem ZF:MtM X "list.clear" bQZ:=by
 intro pins s σ H x vs v us Q I rx rv h
 obtain⟨l,xs,rfl,rfl,hH,q⟩:=h
 cases rx
 have hus:=rv.zero
 subst hus
 obtain⟨z,its,n,r,hl,e⟩:=I.lstM hH
 refine call_meets F.slot_list_clear ⟨_,e,rfl⟩ F.entry_list_clear (F.args_list_clear_1 _) (AutoSeq1.list_clear_list_0 l its.toArray n (by rw[size_toArray];omega)) ⟨e, ?_⟩
 exact⟨.non,_,I.lset (its':=[]) (ys:=[]) hH e rfl .nil (zero_le _),rfl,q⟩
inductive rCat (x:V) (y:V) (H:Hp) (Q:VK):Prop
 |mk:∀l b xs zs,(x=.ref l)->(y=.ref b)->(H l=some (.lst xs))->(H b=some (.lst zs))->(xs.length+zs.length<=sizeLine)->(∀p,H p=none->Q (.ref p) (upd H p (.lst (xs++zs))))->rCat x y H Q
theorem op_cat:OpR X (binaryOp .Add) rCat:=by
 intro pins s σ H x y v u Q I rx ry h
 obtain⟨l,b,xs,zs,rfl,rfl,hH,hB,hz,q⟩:=h
 cases rx
 cases ry
 obtain⟨z,its,n,r,hl,e⟩:=I.lstM hH
 obtain⟨z2,its2,n2,r2,hl2,e2⟩:=I.lstM hB
 refine PySem.P.add_list e e2 ?_ (by rw[size_toArray,size_toArray];omega)
 have ea:its.toArray++its2.toArray=(its++its2).toArray:=by simp
 rw[ea]
 exact⟨.ref _,_,I.lnew (t':=s.toks) (r.append r2) (by rw[length_append];omega),rfl,q _ I.fresh⟩
noncomputable def dbZ:R2:=λx y H Q=>∃l k xs,x=.ref l/\y=.int k/\H l=some (.lst xs)/\ -(2^63)<=k/\k<2^63/\xs.length*k.toNat<=sizeLine/\
 ∀p,H p=none->Q (.ref p) (upd H p (.lst (List.replicate k.toNat xs).flatten))
theorem ZV{α:Type}(xs:List α)(k:Nat):(List.replicate k xs).flatten.length=k*xs.length:=by
 induction k with
 |zero=>simp
 |succ k ih=>rw[replicate_succ,flatten_cons,length_append,ih,Nat.succ_mul,Nat.add_comm]
theorem cnZ:OpR X (binaryOp .Mult) dbZ:=by
 intro pins s σ H x y v u Q I rx ry h
 obtain⟨l,k,xs,rfl,rfl,hH,h1,h2,hz,q⟩:=h
 cases rx
 obtain⟨t,rfl⟩:=ry
 obtain⟨z,its,n,r,hl,e⟩:=I.lstM hH
 have hlen:its.toArray.size*k.toNat<=sizeLine:=by rw[size_toArray,<-hl];exact hz
 have hcap:¬its.toArray.size*k.toNat>(2^63 - 1)/8:=by
  have:(sizeLine:Nat)<=(2^63 - 1)/8:=by decide
  omega
 have hfit:¬(!Builtin.List.listFitsIndex k)=true:=by
  rw[fitsIndex_both h1 h2]
  exact nZ
 have hlong:¬Builtin.List.listTooLong (its.toArray.size*k.toNat)=true:=by
  rw[MI hlen]
  exact nZ
 have hnew:List.foldl (λx1 x2=>x1++x2) #[] (List.replicate (if its.toArray.isEmpty=true then 0 else k.toNat) its.toArray)=(List.replicate k.toNat its).flatten.toArray:=by
  have f0:∀m:Nat,List.foldl (λx1 x2=>x1++x2) #[] (List.replicate m its.toArray)=(List.replicate m its).flatten.toArray:=λm=>by
   have:=foldl_rep its m []
   rw[List.nil_append]at this
   exact this
  rw[f0]
  cases its with
  |nil=>simp
  |cons a r'=>rw[if_neg (by simp)]
 refine wpAny_binaryOp_repeat_ref (T:="list") (U:="int") (by decide) ⟨_,e,rfl⟩ (λs'=>typeIs_int s' k t) noFill_list_mul F.fills_int_mul F.slot_int_rmul repeat_list F.slot_int_index.lookup
  (call_meets F.slot_int_rmul (typeIs_int s k t) F.entry_int_rmul (F.args_int_rmul_2 _ _) (int___rmul___int_list k t l its.toArray n)
   ⟨e,rfl,⟨_,e,rfl⟩,call_meets F.slot_list_mul ⟨_,e,rfl⟩ F.entry_list_mul (F.args_list_mul_2 _ _) (AutoListH.list___mul___list_int_3 l its.toArray n k t hfit hcap hlong) ⟨e, ?_⟩⟩)
 rw[hnew]
 exact⟨.ref _,_,I.lnew (t':=s.toks) (r.rep k.toNat) (by rw[ZV,Nat.mul_comm];exact hz),rfl,q _ I.fresh⟩
variable{prog:Program}{w:World}{A:Around}{E:Value->Shared->Prop}
end
end L2
namespace Att
open PySem PySem.W PySem.Calls PyProof.Rows
theorem DX{P:Params}{h:Heap}:∀(ns:List Int) (vs:List Value),WellAll P h vs (ns.map WData.int)->IntsAre vs ns:=by
 intro ns
 induction ns with
 |nil=>
  intro vs w
  rw[map_nil]at w
  cases w
  exact .nil
 |cons n ns ih=>
  intro vs w
  rw[map_cons]at w
  cases w with
  |cons a b=>
   cases a
   exact .cons _ _ (ih _ b)
theorem VX{l:OpenLaw}{n:Nat}(hn:l.most=some n){P:Params}{h:Heap}{args:List WData}{vals:List Value}
  (hpre:l.row.toRowW.claim.pre args=true)(hwl:WellAll P h vals args):
  ∃a vs ns,vals=[Value.ref a]/\args=[WData.list (ns.map WData.int)]/\h.get? a=some {cls:=.type "list",data:=.seq vs.toArray}/\IntsAre vs ns/\ns.length<=n:=by
 have hsh:WShape.hasAll [] args [.list .int]=true:=(pre_splitW hpre).1
 have hc:l.pre.holds [] {args:=args}=true:=(pre_splitW hpre).2
 obtain⟨d,r,rfl,h1,h2⟩:=hasAllW_cons hsh
 obtain rfl:=hasAllW_nil h2
 obtain⟨xs,rfl,h3⟩:=hasW_list h1
 obtain⟨ns,rfl⟩:=items_int h3
 have hlen:ns.length<=n:=by
  unfold OpenLaw.pre at hc
  have h4:(WTm.not (.lt (.lit (.int (n:Int))) (.len (.arg 0)))).holds [] {args:=[.list (ns.map .int)]}=true:=by
   have h4:=(holds_andW hc).1
   rw[hn]at h4
   exact h4
  have h5:=condW_of h4 (w_not (w_lt w_lit (w_len_list (w_arg rfl))))
  rw[length_map]at h5
  refine Nat.le_of_not_lt λq=> ?_
  have q':(n:Int)<((ns.length:Nat):Int):=by omega
  first
   |(rw[decide_eq_true q']at h5;exact absurd h5 (by decide))
   |(simp at h5;omega)
 cases hwl with
 |cons w1 w2=>
  cases w2
  cases w1 with
  |list ho hall=>exact⟨_,_,ns,rfl,rfl,ho,DX ns _ hall,hlen⟩
theorem VO(l:OpenLaw)(args:List WData):l.row.toRowW.claim.post args (.bool true) args=true:=
 postW_of (r:=l.row.toRowW) (X:=(true==true))
  (show WShape.has [] (.bool true) .bool=true by first|rfl|decide|simp[WShape.has,WShape.arms,WShape.armsAll])
  (show(WTm.eq .res (.lit (.bool true))).value [] {args:=args,res:=some (.bool true),after:=args}=some (.bool (true==true))from w_eq_bool (w_res rfl) w_lit) rfl
theorem attach_call{l:OpenLaw}{n:Nat}{q:Program}{loose:List Str}{XP:(Str->Option Value)->Heap->Prop}{YP:World->Heap->Prop}{d:DefRec}
  (hn:l.most=some n)(hdf:d.params.defaults=[])
  (call:∀(w:World) (s₀ s₁:Shared) (mg mb:Str->Option Value) (fa:Addr) (o:Obj) (pm cd doc:Value) (a:Addr) (vs:List Value) (ns:List Int),
   Ground q loose [] XP w s₀ mg mb s₁.heap->YP w s₁.heap->
   s₁.heap.get? fa=some o->o.data=.func (docDef d.name d.params d.body d.scope pm cd doc)->s₁.heap.CodeRec cd d.name->mg d.name=some (.ref fa)->
   s₁.heap.get? a=some {cls:=.type "list",data:=.seq vs.toArray}->IntsAre vs ns->ns.length<=n->s₁.gens= #[]->
   codeAny (model l.prog w) callerA (.call (.ref fa) ⟨[.ref a],[]⟩) (λr s'=>r=.ok (.ret (.bool true))/\OldK s₁.heap s'.heap/\s'.os=s₁.os/\AllBare s'.gens) s₁):
  WalkO q loose XP YP l.row.toRowW d [] (λf vs=>PySem.call f vs):=by
 intro w s₀ s₁ mg mb G Y fa o pm cd doc dV kV ho hd hcd hD hmg hg args vals as hpre hlay hrd hwl hlo
 obtain rfl:dV=.none:=Dflts.none hD hdf
 obtain rfl:kV=.none:=Dflts.noKw hD
 obtain⟨a,vs,ns,rfl,rfl,hobj,hints,hlen⟩:=VX hn hpre hwl
 refine enter_call (codeAny_mono (call w s₀ s₁ mg mb fa o pm cd doc a vs ns G Y ho (fd_plain hd) hcd hmg hobj hints hlen hg) λr s' hq=> ?_)
 obtain⟨rfl,h2,h3,h4⟩:=hq
 exact⟨.inl ⟨.bool true,.bool true,[],rfl,λ_=>rfl,.bool true,VO l _,λ_=>⟨List.Pairwise.nil,λ_ hm=>(nomatch hm)⟩⟩,h2,h3,h4⟩
section
variable{prog:Program}{w:World}{A:Around}{E:Value->Shared->Prop}{s:Shared}{K:Frag}
end
end Att
namespace L2
open PySem PySem.Spec PyProof.Rows
theorem HM:∀ {vs:List Value} {ns:List Int},IntsAre vs ns->Vals (ns.map V.int) vs
 |_,_,.nil=> .nil
 |_,_,.cons n t h=> .cons ⟨t,rfl⟩ (HM h)
noncomputable def J2(s:Stmt)(j:Nat):Stmt:=match s with
 | .ClassDef _ _ _ body _ _ _ _ _ _ _=>body.getD j (.Pass ⟨0,0,0,0⟩)
 |_=> .Pass ⟨0,0,0,0⟩
noncomputable def G2(s:Stmt):Arguments:=match s with
 | .FunctionDef _ a _ _ _ _ _ _ _ _=>a
 |_=> {posonlyargs:=[],args:=[],vararg:=none,kwonlyargs:=[],kw_defaults:=[],kwarg:=none,defaults:=[]}
noncomputable def E5(s:Stmt):List Stmt:=match s with
 | .FunctionDef _ _ b _ _ _ _ _ _ _=>b
 |_=> []
noncomputable def A9(s:Stmt):Scope:=match s with
 | .FunctionDef _ _ _ _ _ _ sc _ _ _=>sc
 |_=> {kind:=.function,names:=[],isGenerator:=false,isCoroutine:=false}
noncomputable abbrev CX0:CXT:=λ_ _ _ _ _ _=>False
noncomputable abbrev E0:XK:=λ_ _ _=>False
theorem B8{X:Cx}:V7 CX0 X E0:=λ_ _ _ _ _ _ _ h=>h.elim
structure Fun (K:FZ) (x qual:Str) (st:Stmt) (f:Addr) (fd:FuncData):Prop where
 ex:∃(oc:Value) (od:Option Addr) (kV doc pm:Value) (an:Option Addr) (cdv ct:Value) (osl:Array (Option Value)),
  fd=fnOf x qual (G2 st) (E5 st) (A9 st) .none kV doc pm an cdv ct/\K.lookup f=some ⟨oc,od,.func fd,osl⟩/\codeIn K cdv qual=true
 kp:kZ K (.ref f)=true
section
variable{P:Program}{w:World}{K:FZ}{mg:Str->Option Value}{base:Heap}
theorem Fun.ok{x qual:Str}{st:Stmt}{f:Addr}{fd:FuncData}{N ps:List Str}{k:Nat}{sp:Sp}(F:Fun K x qual st f fd)(S:FnScope N ps (A9 st))(len:∀vs H Q E,sp vs H Q E->vs.length=ps.length)
  (hbody:∀(cdv:Value) (A:Around) (outer:List Env) (s:Shared) (H:Hp) (vs:List V) (Q:VK) (E:XK),Room k (A.deeper (envOfC qual (A9 st) s.heap.objs.size f cdv))->sp vs H Q E->
   ∃t,PSs (LX CX0 P w K mg base N qual (A9 st) f cdv A outer s H E).nox (E5 st) t/\t {nx:=λ_ H'=>Q .non H',rt:=Q} (start N vs) H):FnOk P w K mg base CX0 (k+1) f fd ps sp:=by
 obtain⟨oc,od,kV,doc,pm,an,cdv,ct,osl,rfl,lk,hcd⟩:=F.ex
 refine bkZ lk hcd S len λA outer s H vs Q E hr hsp=> ?_
 obtain⟨t,h,q⟩:=hbody cdv A outer s H vs Q E hr hsp
 exact⟨t,h.nox,q⟩
theorem Fun.binds{x qual:Str}{st:Stmt}{f:Addr}{fd:FuncData}{ps:List Str}(F:Fun K x qual st f fd)
  (h:∀(kV doc pm:Value) (an:Option Addr) (cdv ct:Value) (us:List Value),us.length=ps.length->bindArgs (fnOf x qual (G2 st) (E5 st) (A9 st) .none kV doc pm an cdv ct) ⟨us,[]⟩=pure (ps.zip us)):Binds K fd ps []:=by
 obtain⟨oc,od,kV,doc,pm,an,cdv,ct,osl,rfl,lk,hcd⟩:=F.ex
 exact .all (h kV doc pm an cdv ct)
theorem V4{x qual:Str}{st:Stmt}{f:Addr}{oc:Value}{od an:Option Addr}{osl:Array (Option Value)}{kV doc pm cdv ct:Value}(l:K.lookup f=some ⟨oc,od,.func (fnOf x qual (G2 st) (E5 st) (A9 st) .none kV doc pm an cdv ct),osl⟩)
  (c:codeIn K cdv qual=true)(k:kZ K (.ref f)=true):Fun K x qual st f (fnOf x qual (G2 st) (E5 st) (A9 st) .none kV doc pm an cdv ct):=⟨⟨oc,od,kV,doc,pm,an,cdv,ct,osl,rfl,l,c⟩,k⟩
variable{X:Cx}
theorem pv(i:Nat){x:Str}{pos:Pos}(hN:X.N[i]? =some x:=by rfl)(hv:Vis X.env.scope x:=by first|exact Or.inl rfl|exact Or.inr (Or.inl rfl)|exact Or.inr (Or.inr rfl))(hd:(x==("__debug__":Str))=false:=by decide)
  (hcd:(x==("__classdict__":Str))=false:=by decide):PE X (.Name x pos) (tVar i):=cdZ hN hv hd hcd
end
theorem GY{c A B:Prop}[Decidable c](h1:c->A)(h2:¬c->B):if c then A else B:=by
 by_cases h:c
 ·rw[if_pos h]
  exact h1 h
 ·rw[if_neg h]
  exact h2 h
noncomputable def Same(H H':Hp):Prop:=∀b o,H b=some o->H' b=some o
theorem Same.refl(H:Hp):Same H H:=λ_ _ h=>h
theorem Same.trans{H H1 H2:Hp}(a:Same H H1)(b:Same H1 H2):Same H H2:=λc o h=>b c o (a c o h)
theorem Same.free{H H':Hp}(e:Same H H'){l:Addr}(h:H' l=Option.none):H l=Option.none:=by
 cases q:H l with
 |none=>rfl
 |some o=>
  rw[e l o q]at h
  cases h
theorem Same.seq{K:FZ}{H H':Hp}{a:Addr}{xs:List V}(e:Same H H')(h:SqL K H a xs):SqL K H' a xs:=by
 rcases h with(h|⟨o,h⟩)|h
 ·exact .inl (.inl (e _ _ h))
 ·exact .inl (.inr ⟨o,e _ _ h⟩)
 ·exact .inr h
theorem JX{α β:Type}{M:Model}{A:Around}{a:α}{Q:α->Shared->Prop}{E:Value->Shared->Prop}{s:Shared}{t2:Sem β}{Q2:β->Shared->Prop}{E2:Value->Shared->Prop}
  (h:wpAny M A (pure a:Sem α) Q E s)(k:Q a s->wpAny M A t2 Q2 E2 s):wpAny M A t2 Q2 E2 s:=fun Γ p hΓ=>k (h Γ p hΓ) Γ p hΓ
noncomputable def PTs(X:Cx)(ifs:List Expr)(t:TT):Prop:=
 ∀(pins:List (Addr×Obj)) (s:Shared) (σ:St) (H:Hp) (Q:Bool->Hp->Prop),Inv X pins σ H s->t σ H Q->
  wpAny (model X.prog X.w) X.A (forIn ifs true λc r=>if r=true then do let ok<-isTrue c X.env (eval c X.env);pure (ForInStep.yield ok)else pure (ForInStep.yield r)) (TP X pins σ Q) X.xe s
noncomputable def SI:TT:=λ_ H Q=>Q true H
theorem R5{X:Cx}:PTs X [] SI:=λ_ _ _ H _ I h=>wpAny_tests_nil ⟨H,I,h⟩
theorem TH{X:Cx}{c:Expr}{t:TT}(h:PT X c t):PTs X [c] t:=λpins s σ H Q I hq=>wpAny_tests_one (h pins s σ H Q I hq)
noncomputable def AT(cells:List (Str×Addr))(names:List (Str×NameKind))(acc:List (Str×Addr)):List (Str×Addr):=
 match names with
 | []=>acc
 |(n,k)::r=>AT cells r (if k==.free then(n,(cells.lookup n).getD 0)::acc else acc)
theorem BH{env:Env}:∀(names:List (Str×NameKind)) (acc:List (Str×Addr)),(∀y∈names,y.2=.free->∃c,env.cells.lookup y.1=some c)->
  (forIn names acc λ(x:Str×NameKind) (r:List (Str×Addr))=>if(x.2==.free)=true then(do let a<-cellOf env x.1;pure (ForInStep.yield ((x.1,a)::r)):Sem (ForInStep (List (Str×Addr))))else pure (ForInStep.yield r))=(pure (AT env.cells names acc):Sem (List (Str×Addr)))
 | [],acc,_=>rfl
 |(n,k)::r,acc,h=>by
  have ih:=BH (env:=env) r
  rw[List.forIn_cons]
  by_cases hk:(k==NameKind.free)=true
  ·obtain⟨c,hc⟩:=h (n,k) mem_cons_self (by simpa using hk)
   have hc':cellOf env n=pure c:=by unfold cellOf;rw[hc]
   dsimp only
   rw[if_pos hk,hc']
   have e:AT env.cells ((n,k)::r) acc=AT env.cells r ((n,c)::acc):=by
    show AT env.cells r (if(k==NameKind.free)=true then(n,(env.cells.lookup n).getD 0)::acc else acc)=_
    rw[if_pos hk,hc];rfl
   rw[e,<-ih ((n,c)::acc) λy hy=>h y (mem_cons_of_mem _ hy)]
   rfl
  ·dsimp only
   rw[if_neg hk]
   have e:AT env.cells ((n,k)::r) acc=AT env.cells r acc:=by
    show AT env.cells r (if(k==NameKind.free)=true then(n,(env.cells.lookup n).getD 0)::acc else acc)=_
    rw[if_neg hk]
   rw[e,<-ih acc λy hy=>h y (mem_cons_of_mem _ hy)]
   rfl
theorem DW{scope:Scope}{env:Env}(h:∀y∈scope.names,y.2=.free->∃c,env.cells.lookup y.1=some c):closureFor scope env=pure (AT env.cells scope.names []):=by
 unfold closureFor
 have e:=BH (env:=env) scope.names [] h
 first
  |exact e
  |(simp only[bind_pure_comp,map_pure]at*;exact e)
  |(rw[<-e];simp)
theorem ND{cells:List (Str×Addr)}:∀(names:List (Str×NameKind)) (acc:List (Str×Addr)) (p:Str×Addr),(∀y∈names,y.2=.free->∃c,cells.lookup y.1=some c)->p∈AT cells names acc->p∈acc\/(cells.lookup p.1=some p.2/\(p.1,NameKind.free)∈names)
 | [],acc,p,_,h=> .inl h
 |(n,k)::r,acc,p,hn,h=>by
  have h':p∈AT cells r (if(k==NameKind.free)=true then(n,(cells.lookup n).getD 0)::acc else acc):=h
  rcases ND r _ p (λy hy=>hn y (mem_cons_of_mem _ hy)) h' with q|⟨q1,q2⟩
  ·by_cases hk:(k==NameKind.free)=true
   ·rw[if_pos hk]at q
    rcases cZ q with e|q
    ·have hk':k=.free:=by simpa using hk
     obtain⟨c,hc⟩:=hn (n,k) mem_cons_self hk'
     subst e
     refine .inr ⟨?_, ?_⟩
     ·show cells.lookup n=some ((cells.lookup n).getD 0)
      have hc':cells.lookup n=some c:=hc
      rw[hc'];rfl
     ·rw[<-hk'];exact mem_cons_self
    ·exact .inl q
   ·rw[if_neg hk]at q
    exact .inl q
  ·exact .inr ⟨q1,mem_cons_of_mem _ q2⟩
theorem MW{cells:List (Str×Addr)}:∀(names:List (Str×NameKind)) (acc:List (Str×Addr)) (n:Str),((n,NameKind.free)∈names\/∃c,(n,c)∈acc)->∃c,(n,c)∈AT cells names acc
 | [],acc,n,h=>by
  rcases h with h|h
  ·cases h
  ·exact h
 |(m,k)::r,acc,n,h=>by
  show∃c,(n,c)∈AT cells r (if(k==NameKind.free)=true then(m,(cells.lookup m).getD 0)::acc else acc)
  refine MW r _ n ?_
  rcases h with h|⟨c,h⟩
  ·rcases cZ h with e|h
   ·injection e with e1 e2
    subst e1;subst e2
    exact .inr ⟨_,by rw[if_pos (show(NameKind.free==NameKind.free)=true from rfl)];exact mem_cons_self⟩
   ·exact .inl h
  ·refine .inr ⟨c, ?_⟩
   split
   ·exact mem_cons_of_mem _ h
   ·exact h
theorem Z8{α:Type}{n:Str}{c:α}:∀ {l:List (Str×α)},(n,c)∈l->∃d,l.lookup n=some d/\(n,d)∈l
 |(m,d)::r,h=>by
  by_cases e:n=m
  ·subst e
   exact⟨d,by simp[lookup_cons],mem_cons_self⟩
  ·rcases cZ h with q|q
   ·injection q with q1 _
    exact absurd q1 e
   ·obtain⟨d',h1,h2⟩:=Z8 q
    refine⟨d', ?_,mem_cons_of_mem _ h2⟩
    rw[lookup_cons]
    have:(n==m)=false:=beq_eq_false_iff_ne.mpr e
    rw[this];exact h1
structure CompScope (N:List Str) (sc scope:Scope) (x:Str) (caps:List Nat) (ns:List Str):Prop where
 cell:∀y∈scope.names,y.2≠ .cell
 kind:scope.kind=.function
 names:∀y∈scope.names,y.2=.local->scope.names.lookup y.1=some .local
 var:scope.names.lookup x=some .local
 free:∀y∈scope.names,y.2=.free->sc.names.lookup y.1=some .cell\/sc.names.lookup y.1=some .free
 at_:caps.map (λj=>N[j]?)=ns.map some
 nsf:∀y∈ns,scope.names.lookup y=some .free
 nd:(x::ns).Nodup
noncomputable def Cx.comp(X:Cx)(N':List Str)(scope:Scope)(cl:List (Str×Addr))(C:Addr)(s:Shared)(H:Hp)(fp:List Addr):Cx:=
 {X with N:=N',s₀:=s,H₀:=H,env:=compEnvC scope cl C X.env,outer:=X.stack,ex:=fp,fn:=λ_=>false,xe:=λ_ _=>False}
noncomputable def capσ(caps:List Nat)(σ:St)(v:Option V):St:=v::caps.map λj=>(σ[j]?).getD none
noncomputable def WE(wi:TI)(caps:List Nat)(tt:TT)(te:TE)(σ:St)(H:Hp)(R:List V->Hp->Prop):Prop:=wi σ H λJ H1=>∃W:Nat->Nat->List V->Hp->Prop,(∃m,W 0 m [] H1)/\∀i m ys H,W i m ys H->
 ys.length<=sizeLine/\((J.stop i H/\R ys H)\/(J.go i H/\∃N:List V->Hp->Prop,(∀ys' H',N ys' H'->∃m',m'<m/\W (i+1) m' ys' H')/\∀v H',J.yld i H v H'->tt (capσ caps σ (some v)) H' λb H2=>
  if b=true then te (capσ caps σ (some v)) H2 λy H3=>N (ys++ [y]) H3 else N ys H2))
noncomputable def bjZ(wi:TI)(caps:List Nat)(tt:TT)(te:TE):TE:=fun σ H Q=>WE wi caps tt te σ H λys H1=>∀D,H1 D=none->Q (.ref D) (upd H1 D (.lst ys))
theorem FW{scope:Scope}{env:Env}{y:Str}(h:((relabel scope env).names.lookup y=some .cell\/(relabel scope env).names.lookup y=some .free))(hc:∀y∈scope.names,y.2≠ .cell):(y,NameKind.free)∈scope.names:=by
 have h':∃k,(k=.cell\/k=.free)/\(y,k)∈(relabel scope env).names:=by
  rcases h with h|h
  ·exact⟨_,.inl rfl,PySem.mem_of_lookup h⟩
  ·exact⟨_,.inr rfl,PySem.mem_of_lookup h⟩
 obtain⟨k,hk,hm⟩:=h'
 unfold relabel at hm
 obtain⟨⟨n,k0⟩,hm0,e⟩:=mem_map.mp hm
 dsimp only at e
 split at e
 ·rename_i hcond
  injection e with e1 e2
  subst e1
  have:k0=.free:=by
   simp only[Bool.and_eq_true]at hcond
   simpa using hcond.1.1
  subst this
  exact hm0
 ·injection e with e1 e2
  subst e1;subst e2
  rcases hk with rfl|rfl
  ·exact absurd rfl (hc _ hm0)
  ·exact hm0
theorem Q8{env:Env}:∀ {names:List (Str×NameKind)} {x:Str},names.lookup x=some .free->
  (names.map λ(n,k)=>if(k==NameKind.free&&env.scope.kind==.function&&env.kindOf n==some .cell)then(n,NameKind.cell)else(n,k)).lookup x=some .cell\/
  (names.map λ(n,k)=>if(k==NameKind.free&&env.scope.kind==.function&&env.kindOf n==some .cell)then(n,NameKind.cell)else(n,k)).lookup x=some .free
 | [],_,h=>by simp at h
 |(n,k)::r,x,h=>by
  have ih:= @Q8 env r x
  show(List.lookup x ((if(k==NameKind.free&&env.scope.kind==.function&&env.kindOf n==some .cell)=true then(n,NameKind.cell)else(n,k))::_)=_)\/(List.lookup x ((if(k==NameKind.free&&env.scope.kind==.function&&env.kindOf n==some .cell)=true then(n,NameKind.cell)else(n,k))::_)=_)
  cases hx:x==n with
  |true=>
   simp only[lookup_cons,hx]at h
   cases h
   split
   ·left;simp[lookup_cons,hx]
   ·right;simp[lookup_cons,hx]
  |false=>
   simp only[lookup_cons,hx]at h
   by_cases hc:(k==NameKind.free&&env.scope.kind==.function&&env.kindOf n==some .cell)=true
   ·rw[if_pos hc];simp only[lookup_cons,hx];exact ih h
   ·rw[if_neg hc];simp only[lookup_cons,hx];exact ih h
section
variable{X:Cx}
theorem HN{x:Str}{px:Pos}{iter elt:Expr}{ifs:List Expr}{scope:Scope}{pos pos':Pos}{wi:TI}{tt:TT}{te:TE}{caps:List Nat}{ns:List Str}{use:Option (Value->Sem Unit)}{Q:Value->Shared->Prop}
  {pins:List (Addr×Obj)}{s:Shared}{σ:St}{H:Hp}{R:List V->Hp->Prop}
  (CS:CompScope X.N X.env.scope scope x caps ns)(hc:X.calm=true)(hi:PI X (.Name x px) iter wi)
  (ht:∀cl C s H fp,PTs (X.comp (x::ns) scope cl C s H fp) ifs tt)(he:∀cl C s H fp,PE (X.comp (x::ns) scope cl C s H fp) elt te)
  (hs:∀v,foldedSetIterable iter X.env v=pure v)
  (I:Inv X pins σ H s)(h:WE wi caps tt te σ H R)
  (hend:∀D C s' H' ys,Inv X pins σ (upd H' D (.lst ys)) s'->H' D=none->R ys H'->(∃m,s'.heap.Ns C m)->(upd H' D (.lst ys)) C=none->C≠X.env.locals->X.s₀.heap.objs.size<=C->(∀y c,X.env.cells.lookup y=some c->c≠C)->(∀p∈X.pn++pins,p.1≠C)->
   compPost (model X.prog X.w) X.A X.xe use Q (.ref D) C (.ok .next) s'):
  wpAny (model X.prog X.w) X.A (comprehension (.ListComp elt [⟨.Name x px,iter,ifs,0⟩] scope pos) scope X.env pos' (newList []) false (eval iter X.env) use) Q X.xe s:=by
 have hcells:∀y∈scope.names,y.2=.free->∃c,X.env.cells.lookup y.1=some c:=λy hy hf=>I.ok.has y.1 (CS.free y hy hf)
 refine wpAny_comprehension_free (use:=use) rfl hs (DW hcells) CS.kind CS.names ?_
 refine thn (hi pins s σ H _ I h) λv s1 h1=>thn h1 λitv s2 h2=> ?_
 obtain⟨it,fp,tn,J,H2,e,I2,T,st2,f2,W,⟨m0,w0⟩,turn⟩:=h2
 subst e
 refine wpAny_newObj_type (wpAny_newFunctionEnv CS.cell (by intro y hy;simp at hy) (λh₁ hns₁ hsb₁=> ?_) CS.kind)
 dsimp only at hns₁ hsb₁⊢
 generalize hHH:s2.heap.push {cls:=.type "list",dict:=none,data:=.seq ([]:List Value).toArray}=HH at hns₁ hsb₁⊢
 have hC:HH.objs.size=s2.heap.objs.size+1:=by rw[<-hHH,size_push]
 generalize hCe:HH.objs.size=C at hns₁ hsb₁ hC⊢
 have hDC:s2.heap.objs.size≠C:=by rw[hC];exact ne_of_lt (Nat.lt_succ_self _)
 have below:∀b,b<s2.heap.objs.size->b≠C/\b≠s2.heap.objs.size:=λb hb=>⟨by rw[hC];exact ne_of_lt (Nat.lt_succ_of_lt hb),ne_of_lt hb⟩
 have old:∀b o,s2.heap.get? b=some o->h₁.get? b=some o:=λb o e=>hsb₁.extBut b o (below b (lt_size e)).1 (gZ _ (hHH▸gZ _ e))
 have hacc:h₁.get? s2.heap.objs.size=some (LCg.lst []):=hsb₁.extBut _ _ hDC (gZ _ (hHH▸get?_push_size _ rfl))
 have nfp:∀b∈fp,b<s2.heap.objs.size:=λb hb=>let⟨o,e,_⟩:=T.obj _ _ st2 b hb;lt_size e
 have clsub:∀y c,(AT X.env.cells scope.names []).lookup y=some c->X.env.cells.lookup y=some c:=λy c e=>by
  rcases ND scope.names [] (y,c) hcells (PySem.mem_of_lookup e)with q|q
  ·cases q
  ·exact q.1
 have fresh2:∀a,s2.heap.objs.size<=a->H2 a=none:=λa ha=>I2.hok.fresh ha
 generalize hcl:AT X.env.cells scope.names []=cl at clsub⊢
 have clhas:∀y,(y,NameKind.free)∈scope.names->∃c,cl.lookup y=some c:=λy hy=>by
  obtain⟨c,q⟩:=MW (cells:=X.env.cells) scope.names [] y (.inl hy)
  rw[hcl]at q
  obtain⟨d,q1,_⟩:=Z8 q
  exact⟨d,q1⟩
 have ltC:∀y c,X.env.cells.lookup y=some c->c<s2.heap.objs.size:=λy c e=>let⟨v,z⟩:=I2.cell y c e;z.lt
 have ok':(X.comp (x::ns) scope cl C s2 H2 fp).Ok:=by
  refine⟨I2.ok.mod,CS.kind,I2.ok.glob,I2.ok.blt,(by show s2.heap.objs.size<=C;rw[hC];exact le_succ _),λy z c a b=>I2.ok.inj y z c (clsub y c a) (clsub z c b),λy hy=>clhas y (FW hy CS.cell),λy c z=>(by cases z),I2.ok.hd,I2.ok.frames,.inl rfl,
   λb hb=>⟨(below b (nfp b hb)).1,λy c e z=>(f2 b hb).2.2.2.2.1 y c (clsub y c e) z⟩,λb o e=>I2.bs b o e,le_trans I2.ok.bsz I2.sz,λb o e hb=> ?_,λb hb hf=> ?_,I2.stack,I2.stkFree⟩
  ·rcases(f2 b hb).2.2.2.1 with z|z
   ·exact I2.ok.noex b o e z
   ·exact absurd (lt_of_lt_of_le (lt_size e) (le_trans I2.ok.bsz z)) (lt_irrefl _)
  ·rcases cZ (I2.stkSub b hf)with z|z
   ·exact(f2 b hb).2.1 z
   ·exact(f2 b hb).2.2.1 z
 have capget:∀(k:Nat) (y:Str) (v:V),(x::ns)[k]? =some y->(capσ caps σ none)[k]? =some (some v)->∃j,X.N[j]? =some y/\σ[j]? =some (some v)/\scope.names.lookup y=some .free:=λk y v e1 e2=>by
  cases k with
  |zero=>cases e2
  |succ k=>
   have e1':ns[k]? =some y:=by simpa using e1
   have e2':(caps.map λj=>(σ[j]?).getD none)[k]? =some (some v):=by simpa [capσ]using e2
   have e3:(ns.map some)[k]? =some (some y):=by rw[getElem?_map,e1'];rfl
   rw[<-CS.at_,getElem?_map]at e3
   rw[getElem?_map]at e2'
   cases hj:caps[k]? with
   |none=>rw[hj]at e3;cases e3
   |some j=>
    rw[hj]at e3 e2'
    have e4:X.N[j]? =some y:=Option.some.inj e3
    have e5:(σ[j]?).getD none=some v:=Option.some.inj e2'
    refine⟨j,e4, ?_,CS.nsf y (mem_of_getElem? e1')⟩
    cases hσ:σ[j]? with
    |none=>rw[hσ]at e5;cases e5
    |some z=>rw[hσ]at e5;have e6:z=some v:=e5;rw[e6]
 have visfree:∀y,scope.names.lookup y=some .free->X.env.kindOf y=some .cell\/X.env.kindOf y=some .free:=λy hy=>CS.free (y,.free) (PySem.mem_of_lookup hy) rfl
 have I0:Inv (X.comp (x::ns) scope cl C s2 H2 fp) (pins++ [(s2.heap.objs.size,LCg.lst [])]) (capσ caps σ none) H2 {s2 with heap:=h₁,toks:=s2.toks+([]:List (Str×Value)).length}:=by
  obtain⟨m2,hn2,hl2⟩:=I2.loc
  refine⟨ok',rfl,I2.bare,Un.kept old,⟨_,hns₁,λk y v e1 e2 e3=> ?_⟩,λy c e=> ?_,fresh2 C (by rw[hC];exact le_succ _),λy c e=>I2.freeC y c (clsub y c e),λp hp=> ?_,I2.hok.kept old, ?_⟩
  ·obtain⟨j,q1,q2,q3⟩:=capget k y v e1 e2
   have vf:=visfree y q3
   obtain⟨u,ru,lk⟩:=hl2 j y v q1 q2 (vf.elim (λz=> .inr (.inl z)) λz=> .inr (.inr z))
   refine⟨u,ru,.inr ⟨Q8 q3, ?_⟩⟩
   obtain⟨c,hcl'⟩:=clhas y (PySem.mem_of_lookup q3)
   refine⟨c,hcl', ?_⟩
   rcases lk with⟨k1,_⟩|⟨_,c',e',z⟩
   ·rcases vf with vf|vf<;>(rw[k1]at vf;cases vf)
   ·have q:=clsub y c hcl'
    rw[e']at q
    cases q
    exact z.keeps old
  ·obtain⟨v,z⟩:=I2.cell y c (clsub y c e)
   exact⟨v,z.keeps old⟩
  ·rcases mem_append.mp hp with hp|hp
   ·obtain⟨a1,a2,a3,a4,a5⟩:=I2.pin p (mem_append_left _ hp)
    refine⟨old _ _ a1,a2,(below _ (lt_size a1)).1,λz=> ?_,a5⟩
    rcases cZ (I2.stkSub _ z)with z|z
    ·exact a3 z
    ·exact a4 z
   ·rcases mem_append.mp hp with hp|hp
    ·obtain⟨a1,a2,a3,a4,a5⟩:=I2.pin p (mem_append_right _ hp)
     refine⟨old _ _ a1,a2,(below _ (lt_size a1)).1,λz=> ?_,a5⟩
     rcases cZ (I2.stkSub _ z)with z|z
     ·exact a3 z
     ·exact a4 z
    ·have e:p=(s2.heap.objs.size,LCg.lst []):=by simpa using hp
     subst e
     refine⟨hacc,fresh2 _ (le_refl _),hDC,λz=> ?_,λv z=>by cases z⟩
     rcases cZ (I2.stkSub _ z)with z|z
     ·exact absurd I2.lt (by rw[<-z];exact lt_irrefl _)
     ·exact I2.nofs (le_refl _) z
  ·show(capσ caps σ none).length=(x::ns).length
   have:=congrArg List.length CS.at_
   simp only[length_map]at this
   simp[capσ,this]
 have loop:∀s₃:Shared,s₃={s2 with heap:=h₁,toks:=s2.toks+([]:List (Str×Value)).length}->
   codeAny (model X.prog X.w) X.A (.compLoop (.ListComp elt [⟨.Name x px,iter,ifs,0⟩] scope pos) 0 (.ref it) (.ref s2.heap.objs.size) (compEnvC scope cl C X.env))
    (compPost (model X.prog X.w) X.A X.xe use Q (.ref s2.heap.objs.size) C) s₃:=by
  rintro s₃ rfl
  refine codeAny_compLoop_tests (λn s'=>∃i ys us H',Inv (X.comp (x::ns) scope cl C s2 H2 fp) (pins++ [(s2.heap.objs.size,LCg.lst us)]) (capσ caps σ none) H' s'/\Vals ys us/\tn i s'.heap/\(∀b∈fp,H' b=none)/\W i n ys H') ?_ m0
   ⟨0,[],[],H2,I0,.nil,T.keep _ _ _ st2 (λb _ o e=>old b o e),λb hb=>(f2 b hb).1,w0⟩
  rintro n s3 ⟨i,ys,us,H3,I3,rv,st3,fr3,w3⟩
  obtain⟨hle,hstep⟩:=turn i n ys H3 w3
  have pinlt:∀p∈X.pn++pins,p.1<s2.heap.objs.size:=λp hp=>lt_size (I2.pin p hp).1
  have stat:∀ {H':Hp},(∀b∈fp,H' b=none)->∀b∈fp,QK (X.comp (x::ns) scope cl C s2 H2 fp) (pins++ [(s2.heap.objs.size,LCg.lst us)]) H' b:=λhn b hb=>
   ⟨hn b hb,(below b (nfp b hb)).1,ok'.exfs b hb,.inl hb,λy c e z=>(f2 b hb).2.2.2.2.1 y c (clsub y c e) z,λp hp=>by
    rcases mem_append.mp hp with hp|hp
    ·exact(f2 b hb).2.2.2.2.2 p (mem_append_left _ hp)
    ·rcases mem_append.mp hp with hp|hp
     ·exact(f2 b hb).2.2.2.2.2 p (mem_append_right _ hp)
     ·have e:p=(s2.heap.objs.size,LCg.lst us):=by simpa using hp
      subst e
      exact Ne.symm (below b (nfp b hb)).2⟩
  have memD:∀(l:List (Addr×Obj)),(s2.heap.objs.size,LCg.lst us)∈(X.comp (x::ns) scope cl C s2 H2 fp).pn++((pins++ [(s2.heap.objs.size,LCg.lst us)])++l):=λl=>
   mem_append_right _ (mem_append_left _ (mem_append_right _ mem_cons_self))
  rcases hstep with⟨stop,r⟩|⟨go,Nx,hNx,step⟩
  ·refine thn (T.done (X.comp (x::ns) scope cl C s2 H2 fp) rfl rfl rfl hc i _ s3 _ H3 _ I3 (stat fr3) st3 stop) λr' s4 ⟨hr,I4⟩=> ?_
   subst hr
   have pD:=I4.pin (s2.heap.objs.size,LCg.lst us) (mem_append_right _ (mem_append_right _ mem_cons_self))
   have hDn:H3 s2.heap.objs.size=none:=pD.2.1
   have hCn:H3 C=none:=I4.free
   have b4:Un (frs X.stack) fp H2 H3 s2.heap s4.heap:=I4.base
   have u4:Un (frs X.stack) fp H2 (upd H3 s2.heap.objs.size (.lst ys)) s2.heap s4.heap:=
    ⟨b4.keep,b4.slot,λb o e n hx=>by rw[B0 (below b (lt_size e)).2];exact b4.free b o e n hx,b4.there,
     λb xs q=>by rw[B0 (C6 (b4.tups b xs q) hDn)];exact b4.tups b xs q,λb o u q=>by rw[B0 (C6 (b4.frzs b o u q) hDn)];exact b4.frzs b o u q,
     λb ps q=>by
      obtain⟨m1,e1⟩:=b4.tbls b ps q
      exact⟨m1,by rw[B0 (C6 e1 hDn)];exact e1⟩⟩
   have k4:HOk X.prog X.w (upd H3 s2.heap.objs.size (.lst ys)) s4.heap:=λb u e=>by
    by_cases hb:b=s2.heap.objs.size
    ·subst hb
     rw[A2]at e
     cases e
     exact⟨hle,us,_,rv,pD.1⟩
    ·rw[B0 hb]at e
     exact(I4.hok b u e).stay (λc v _ q=>q) (λc q=>by rw[B0 (C6 q hDn)];exact q) λc xs q=>by rw[B0 (C6 q hDn)];exact q
   have J4:Inv X pins σ (upd H3 s2.heap.objs.size (.lst ys)) s4:=I2.call' (ch:=fp) I4.os u4 k4 I4.bare λb hb=>⟨(f2 b hb).2.2.2.1,(f2 b hb).2.1,(f2 b hb).2.2.2.2.1,(f2 b hb).2.2.2.2.2⟩
   obtain⟨mC,hnC,_⟩:=I4.loc
   exact hend _ C s4 H3 ys J4 hDn r ⟨mC,hnC⟩ (by rw[B0 (Ne.symm hDC)];exact hCn) (Ne.symm (below _ I2.lt).1) (by rw[hC];exact le_succ_of_le I2.sz) (λy c e=>(below c (ltC y c e)).1) λp hp=>(below _ (pinlt p hp)).1
  ·refine thn (T.item (X.comp (x::ns) scope cl C s2 H2 fp) rfl rfl rfl hc i _ s3 _ H3 _ I3 (stat fr3) st3 go) λr' s4 ⟨u,hr,h4⟩=> ?_
   subst hr
   refine JX h4 λ⟨v,H5,I5,r5,y5,st5,fr5⟩=> ?_
   have I5':=I5.pinned (stat fr5) (T.obj _ _ st5)
   refine wpAny_assign_Name (FQ (X:=X.comp (x::ns) scope cl C s2 H2 fp) (i:=0) I5' CS.nd rfl (.inl (lookup_relabel_local CS.var)) r5 (λs6 I6=> ?_) (.inr (lookup_relabel_local CS.var)))
   have I6':Inv (X.comp (x::ns) scope cl C s2 H2 fp) ((pins++ [(s2.heap.objs.size,LCg.lst us)])++CB fp s4.heap) (capσ caps σ (some v)) H5 s6:=I6
   refine wpAny_mono (ht cl C s2 H2 fp _ s6 _ H5 _ I6' (step v H5 y5)) (λb s7 ⟨H7,I7,q7⟩=> ?_) (λ_ _ e=>e.elim)
   have weak:∀ {H':Hp} {s':Shared} {pl:List (Addr×Obj)},Inv (X.comp (x::ns) scope cl C s2 H2 fp) pl (capσ caps σ (some v)) H' s'->Inv (X.comp (x::ns) scope cl C s2 H2 fp) pl (capσ caps σ none) H' s':=λ{H' s' pl} J'=>
    J'.weak rfl λk z e=>by
     cases k with
     |zero=>cases e
     |succ k=>exact e
   have keepT:∀ {H':Hp} {s':Shared},Inv (X.comp (x::ns) scope cl C s2 H2 fp) ((pins++ [(s2.heap.objs.size,LCg.lst us)])++CB fp s4.heap) (capσ caps σ (some v)) H' s'->tn (i+1) s'.heap/\∀b∈fp,H' b=none:=λ{H' s'} J'=>by
    refine⟨T.keep _ _ _ st5 λb hb o e=>(J'.pin (b,o) (mem_append_right _ (mem_append_right _ (V5 hb e)))).1,λb hb=> ?_⟩
    obtain⟨o,e,d⟩:=T.obj _ _ st5 b hb
    exact(J'.pin (b,o) (mem_append_right _ (mem_append_right _ (V5 hb e)))).2.1
   cases b with
   |false=>
    rw[if_neg nZ]at q7⊢
    obtain⟨m',hm,w7⟩:=hNx _ _ q7
    exact⟨m',hm,i+1,ys,us,H7,weak I7.unpinned,rv,(keepT I7).1,(keepT I7).2,w7⟩
   |true=>
    rw[if_pos rfl]at q7⊢
    refine wpAny_mono (he cl C s2 H2 fp _ s7 _ H7 _ I7 q7) (λyv s8 ⟨y,H8,I8,ry,n8⟩=> ?_) (λ_ _ e=>e.elim)
    obtain⟨m',hm,w8⟩:=hNx _ _ n8
    have pD:=I8.pin (s2.heap.objs.size,LCg.lst us) (memD _)
    have hul:us.length=ys.length:=rv.length.symm
    refine append_at (hsz:=by show us.toArray.size<=sizeLine;rw[size_toArray,hul];exact hle) pD.1 λh9 hs9 hD9=> ?_
    have I8p:Inv (X.comp (x::ns) scope cl C s2 H2 fp) pins (capσ caps σ none) H8 s8:=weak I8.unpinned.unpinned
    have I9:Inv (X.comp (x::ns) scope cl C s2 H2 fp) pins (capσ caps σ none) H8 {s8 with heap:=h9}:=I8p.turned (t':=s8.toks) (it:=s2.heap.objs.size) (λb o hb e=>(hs9.2 b hb).trans e) pD.2.1 hDC (.inr (le_refl _)) (λy c e z=>ne_of_lt (ltC y c (clsub y c e)) z) λp hp=>ne_of_lt (pinlt p hp)
    have I9':Inv (X.comp (x::ns) scope cl C s2 H2 fp) (pins++ [(s2.heap.objs.size,LCg.lst (us++ [yv]))]) (capσ caps σ none) H8 {s8 with heap:=h9}:=I9.pins_of λp hp=>by
     rcases mem_append.mp hp with hp|hp
     ·exact I9.pin p (mem_append_right _ hp)
     ·have e:p=(s2.heap.objs.size,LCg.lst (us++ [yv])):=by simpa using hp
      subst e
      exact⟨hD9.trans (congrArg some (LCg.lst_snoc us yv)),pD.2.1,hDC,pD.2.2.2.1,λv z=>by cases z⟩
    refine⟨m',hm,i+1,ys++ [y],us++ [yv],H8,I9',rv.append (.cons ry .nil), ?_,(keepT I8).2,w8⟩
    exact T.keep _ _ _ (keepT I8).1 λb hb o e=>(hs9.2 b (below b (nfp b hb)).2).trans e
 exact codeAny_compStart_list (loop _ rfl) (T.self X.A 0 _ _ _ (T.keep _ _ _ st2 (λb _ o e=>old b o e)) (loop _ rfl))
theorem WU{K:FZ}{a:Addr}{xs:List V}{caps:List Nat}{tt:TT}{te:TE}{σ:St}{H:Hp}{R:List V->Hp->Prop}(Pv:Nat->List V->Hp->Prop)(h0:Pv 0 [] H)(hl:∀i ys H,i<=xs.length->Pv i ys H->SqT K H a xs/\ys.length<=sizeLine)
  (hs:∀i x ys H,xs[i]? =some x->Pv i ys H->tt (capσ caps σ (some x)) H λb H2=>if b=true then te (capσ caps σ (some x)) H2 λy H3=>Pv (i+1) (ys++ [y]) H3 else Pv (i+1) ys H2)(hd:∀ys H,Pv xs.length ys H->R ys H):
  ∃W:Nat->Nat->List V->Hp->Prop,(∃m,W 0 m [] H)/\∀i m ys H,W i m ys H->ys.length<=sizeLine/\(((Itt K a).stop i H/\R ys H)\/((Itt K a).go i H/\∃N:List V->Hp->Prop,(∀ys' H',N ys' H'->∃m',m'<m/\W (i+1) m' ys' H')/\∀v H',(Itt K a).yld i H v H'->
   tt (capσ caps σ (some v)) H' λb H2=>if b=true then te (capσ caps σ (some v)) H2 λy H3=>N (ys++ [y]) H3 else N ys H2)):=by
 refine⟨λi m ys H=>m=xs.length - i/\i<=xs.length/\Pv i ys H,⟨xs.length,by simp,zero_le _,h0⟩, ?_⟩
 rintro i m ys H ⟨rfl,hi,p⟩
 obtain⟨q,hz⟩:=hl i ys H hi p
 refine⟨hz, ?_⟩
 by_cases hlt:i<xs.length
 ·refine .inr ⟨⟨xs,xs[i],q,by simp[hlt]⟩,Pv (i+1),λys' H' p'=>⟨xs.length - (i+1),by omega,rfl,hlt,p'⟩,λx H' y=> ?_⟩
  obtain⟨e,y⟩:=y
  subst e
  exact hs i x ys _ (y xs q) p
 ·have e:i=xs.length:=by omega
  subst e
  exact .inl ⟨⟨xs,q,le_refl _⟩,hd ys H p⟩
theorem CP{K:FZ}{a:Addr}{xs:List V}{caps:List Nat}{tt:TT}{te:TE}{σ:St}{H:Hp}{R:List V->Hp->Prop}(Pv:Nat->List V->Hp->Prop)(h0:Pv 0 [] H)(hl:∀i ys H,i<=xs.length->Pv i ys H->SqL K H a xs/\ys.length<=sizeLine)
  (hs:∀i x ys H,xs[i]? =some x->Pv i ys H->tt (capσ caps σ (some x)) H λb H2=>if b=true then te (capσ caps σ (some x)) H2 λy H3=>Pv (i+1) (ys++ [y]) H3 else Pv (i+1) ys H2)(hd:∀ys H,Pv xs.length ys H->R ys H):
  ∃W:Nat->Nat->List V->Hp->Prop,(∃m,W 0 m [] H)/\∀i m ys H,W i m ys H->ys.length<=sizeLine/\(((Itl K a).stop i H/\R ys H)\/((Itl K a).go i H/\∃N:List V->Hp->Prop,(∀ys' H',N ys' H'->∃m',m'<m/\W (i+1) m' ys' H')/\∀v H',(Itl K a).yld i H v H'->
   tt (capσ caps σ (some v)) H' λb H2=>if b=true then te (capσ caps σ (some v)) H2 λy H3=>N (ys++ [y]) H3 else N ys H2)):=by
 refine⟨λi m ys H=>m=xs.length - i/\i<=xs.length/\Pv i ys H,⟨xs.length,by simp,zero_le _,h0⟩, ?_⟩
 rintro i m ys H ⟨rfl,hi,p⟩
 obtain⟨q,hz⟩:=hl i ys H hi p
 refine⟨hz, ?_⟩
 by_cases hlt:i<xs.length
 ·refine .inr ⟨⟨xs,xs[i],q,by simp[hlt]⟩,Pv (i+1),λys' H' p'=>⟨xs.length - (i+1),by omega,rfl,hlt,p'⟩,λx H' y=> ?_⟩
  obtain⟨e,y⟩:=y
  subst e
  exact hs i x ys _ (y xs q) p
 ·have e:i=xs.length:=by omega
  subst e
  exact .inl ⟨⟨xs,q,le_refl _⟩,hd ys H p⟩
theorem O5{lo:Int}{n:Nat}{caps:List Nat}{tt:TT}{te:TE}{σ:St}{H:Hp}{R:List V->Hp->Prop}(Pv:Nat->List V->Hp->Prop)(h0:Pv 0 [] H)(hl:∀i ys H,i<=n->Pv i ys H->ys.length<=sizeLine)
  (hs:∀i ys H,i<n->Pv i ys H->tt (capσ caps σ (some (.int (lo+i)))) H λb H2=>if b=true then te (capσ caps σ (some (.int (lo+i)))) H2 λy H3=>Pv (i+1) (ys++ [y]) H3 else Pv (i+1) ys H2)(hd:∀ys H,Pv n ys H->R ys H):
  ∃W:Nat->Nat->List V->Hp->Prop,(∃m,W 0 m [] H)/\∀i m ys H,W i m ys H->ys.length<=sizeLine/\(((Itr lo n).stop i H/\R ys H)\/((Itr lo n).go i H/\∃N:List V->Hp->Prop,(∀ys' H',N ys' H'->∃m',m'<m/\W (i+1) m' ys' H')/\∀v H',(Itr lo n).yld i H v H'->
   tt (capσ caps σ (some v)) H' λb H2=>if b=true then te (capσ caps σ (some v)) H2 λy H3=>N (ys++ [y]) H3 else N ys H2)):=by
 refine⟨λi m ys H=>m=n - i/\i<=n/\Pv i ys H,⟨n,by simp,zero_le _,h0⟩, ?_⟩
 rintro i m ys H ⟨rfl,hi,p⟩
 refine⟨hl i ys H hi p, ?_⟩
 by_cases hlt:i<n
 ·refine .inr ⟨hlt,Pv (i+1),λys' H' p'=>⟨n - (i+1),by omega,rfl,hlt,p'⟩,λx H' y=> ?_⟩
  obtain⟨e,y⟩:=y
  subst e y
  exact hs i ys _ hlt p
 ·have e:i=n:=by omega
  subst e
  exact .inl ⟨le_refl _,hd ys H p⟩
theorem Z3{x:Str}{px:Pos}{iter elt:Expr}{ifs:List Expr}{scope sc:Scope}{N:List Str}{pos:Pos}{wi:TI}{tt:TT}{te:TE}{caps:List Nat}{ns:List Str}
  (CS:CompScope N sc scope x caps ns)(hN':X.N=N)(hsc:X.env.scope=sc)(hc:X.calm=true)(hi:PI X (.Name x px) iter wi)
  (ht:∀cl C s H fp,PTs (X.comp (x::ns) scope cl C s H fp) ifs tt)(he:∀cl C s H fp,PE (X.comp (x::ns) scope cl C s H fp) elt te)
  (hs:∀v,foldedSetIterable iter X.env v=pure v:=by intro _;rfl):
  PE X (.ListComp elt [⟨.Name x px,iter,ifs,0⟩] scope pos) (bjZ wi caps tt te):=by
 intro pins s σ H Q I h
 subst hN';subst hsc
 rw[eval_ListComp]
 refine HN CS hc hi ht he hs I h ?_
 rintro D C s' H' ys I' hD r ⟨m,hn⟩ c1 c2 c3 c4 c5
 exact⟨m,hn,λh' hs'=>⟨.ref D,_,I'.turned (t':=s'.toks) (λb o hb e=>(hs'.2 b hb).trans e) c1 c2 (.inr c3) c4 c5,rfl,r D hD⟩⟩
theorem S6{i:Nat}{x y:Str}{px py:Pos}{iter elt:Expr}{ifs:List Expr}{scope sc:Scope}{N:List Str}{pos spos:Pos}{wi:TI}{tt:TT}{te:TE}{caps:List Nat}{ns:List Str}(hN:X.N.Nodup)(hi:X.N[i]? =some y)
  (hy:X.env.scope.names.lookup y=some .local)(CS:CompScope N sc scope x caps ns)(hN':X.N=N)(hsc:X.env.scope=sc)(hc:X.calm=true)(hit:PI X (.Name x px) iter wi)
  (ht:∀cl C s H fp,PTs (X.comp (x::ns) scope cl C s H fp) ifs tt)(he:∀cl C s H fp,PE (X.comp (x::ns) scope cl C s H fp) elt te)
  (hsw:swapsWith (.ListComp elt [⟨.Name x px,iter,ifs,0⟩] scope pos) (some (.Name y py)) spos.line X.env=pure true:=by rfl)
  (hs:∀v,foldedSetIterable iter X.env v=pure v:=by intro _;rfl):
  PS X (.Assign [.Name y py] (.ListComp elt [⟨.Name x px,iter,ifs,0⟩] scope pos) spos) (bWZ (bjZ wi caps tt te) (YB i)):=by
 intro pins s σ H D I h
 subst hN';subst hsc
 rw[exec_Assign_Name_used _ _ _ _ hsw]
 refine bZ (wpAny_standAt (bZ ?_))
 show wpAny _ X.A (do let _<-comprehension (.ListComp elt [⟨.Name x px,iter,ifs,0⟩] scope pos) scope X.env _ (newList []) false (eval iter X.env) (some (assign (.Name y py) X.env))) _ _ s
 refine bZ (wpAny_mono (HN (use:=some (assign (.Name y py) X.env)) (Q:=λ_ s'=>SP X pins D .next s') CS hc hit ht he hs I h ?_) (λ_ s' hq=>pZ (pZ hq)) λ_ _ e=>e)
 rintro D' C s' H' ys I' hD r ⟨m,hn⟩ c1 c2 c3 c4 c5
 show wpAny _ _ (assign (.Name y py) X.env (.ref D')) _ _ s'
 refine wpAny_assign_Name (HU (v:=.ref D') I' hN hi (.inl hy) rfl (λs'' I'' ⟨a,sb,ha⟩=> ?_) (.inr hy))
 have hCa:C≠a:=by
  rcases ha with e|e
  ·rw[e];exact c2
  ·exact Ne.symm (c4 y a e)
 exact⟨m,hn.sameBut sb hCa,λh' hs'=>⟨_,_,I''.turned (t':=s''.toks) (λb o hb e=>(hs'.2 b hb).trans e) c1 c2 (.inr c3) c4 c5,r D' hD⟩⟩
end
theorem E8:bootBuiltins "len"=some (.builtin "len"):=by decide +kernel
theorem bPZ:bootBuiltins "max"=some (.builtin "max"):=by decide +kernel
theorem D3:bootBuiltins "isinstance"=some (.builtin "isinstance"):=by decide +kernel
theorem bEZ:bootBuiltins "abs"=some (.builtin "abs"):=by decide +kernel
theorem RJ:bootBuiltins "all"=some (.builtin "all"):=by decide +kernel
theorem N0:bootBuiltins "list"=some (.type "list"):=by decide +kernel
theorem P4:bootBuiltins "tuple"=some (.type "tuple"):=by decide +kernel
theorem QA:bootBuiltins "int"=some (.type "int"):=by decide +kernel
theorem RT:bootBuiltins "bool"=some (.type "bool"):=by decide +kernel
theorem XS:bootBuiltins "str"=some (.type "str"):=by decide +kernel
section
variable{X:Cx}
theorem VW(hc:X.calm=true):CallR X (.builtin "max") (λxs H Q=>∃(p:Addr) (ns:List Int),xs=[.ref p]/\SqL X.K H p (ns.map V.int)/\0<ns.length/\∀M:Int,M∈ns->(∀a∈ns,a<=M)->Q (.int M) H):=by
 intro pins s σ H vs us Q I r h
 obtain⟨p,ns,rfl,hS,hne,q⟩:=h
 obtain⟨u,rfl,ru⟩:=BA r
 cases ru
 obtain⟨its,rv,pl,hz⟩:=I.list hS
 have hi:IntsAre its ns:=QI rv
 obtain⟨xs,e⟩:=hi.allInts.items
 have hns:ns=xs.toList.map (·.1):=by
  rw[<-hi.numsOf,<-nums_intItems,<-e]
 have hsz:0<xs.size:=by
  have h3:=hne;rw[hns,length_map,Array.length_toList]at h3;exact h3
 have hl:=pl.isList
 rw[e]at hl
 refine max_intList (I.ok.hd hc) hl hsz λv h' tk hv hk=> ?_
 obtain⟨t,rfl⟩:=intItems_at hv
 obtain⟨h1,h2⟩:=argBest_gt (numAt xs) (xs.size - 1)
 refine⟨.int _,H,I.kept hk,⟨_,rfl⟩,q _ ?_ λa ha=> ?_⟩
 ·rw[hns,numAt_eq];exact getD_mem (by rw[length_map,Array.length_toList];omega)
 ·rw[hns]at ha
  obtain⟨j,hj,rfl⟩:=mem_getD ha
  rw[length_map,Array.length_toList]at hj
  rw[<-numAt_eq];exact h2 j (by omega)
theorem WR(hc:X.calm=true):CallR X (.builtin "max") (λxs H Q=>(∃i j,xs=[.int i,.int j]/\Q (.int (if j>i then j else i)) H)\/
  (∃(p:Addr) (ns:List Int),xs=[.ref p]/\SqL X.K H p (ns.map V.int)/\0<ns.length/\∀M:Int,M∈ns->(∀a∈ns,a<=M)->Q (.int M) H)):=(UV hc).or (VW hc)
theorem op_mul_str:OpR X (binaryOp .Mult) (λx y H Q=>∃i n,x=.str i/\y=.int n/\0<=n/\n<=16777216/\i.length*n.toNat<=16777216/\Q (.str (Txt.mul i n)) H):=by
 intro pins s σ H x y v u Q I rx ry h
 obtain⟨i,n,rfl,rfl,h0,h1,h2,q⟩:=h
 obtain⟨t,rfl⟩:=rx
 obtain⟨t',rfl⟩:=ry
 exact SB.mul (mulOk_of i.length n.toNat (le_refl _) (by omega) (by omega) (by omega) h2) λt'' k=>⟨.str _,H,I.tok _,⟨_,rfl⟩,q⟩
noncomputable def c5Z(K:FZ)(te ts:TE):TE:=fun σ H Q=>te σ H λx H1=>ts σ H1 λy H2=>y=.int (-1)/\∃a xs,x=.ref a/\SqL K H2 a xs/\∀p,H2 p=none->Q (.ref p) (upd H2 p (.lst xs.reverse))
theorem b8Z{e st:Expr}{te ts:TE}{p2 pos:Pos}(he:PE X e te)(hst:PE X st ts):PE X (.Subscript e (.Slice none none (some st) p2) pos) (c5Z X.K te ts):=by
 intro pins s σ H Q I h
 refine Subscript_ (thn (he pins s σ H _ I h) λv s1 ⟨x,H1,I1,r1,q1⟩=> ?_)
 refine wpAny_Slice (pZ (pZ ?_))
 rw[evalPart_some]
 refine thn (hst pins s1 σ H1 _ I1 q1) λw s3 ⟨y,H3,I3,ry,q3⟩=> ?_
 obtain⟨ey,a,xs,ex,hS,q⟩:=q3
 subst ey;subst ex
 obtain⟨tk,rfl⟩:=ry
 cases r1
 have I4:Inv X pins σ H3 {s3 with heap:=s3.heap.push {cls:=.type "slice",data:=.fields #[.none,.none,.int (-1) tk]}}:=I3.kept (t':=s3.toks) λb ob q=>gZ _ q
 obtain⟨its,r,pl,hz⟩:=I4.list hS
 have hlen:=r.length
 show wpAny (model X.prog X.w) X.A (subscriptTail e (.Slice none none (some st) p2) (.ref a) (.ref s3.heap.objs.size)) (EP X pins σ Q) X.xe {s3 with heap:=s3.heap.push {cls:=.type "slice",data:=.fields #[.none,.none,.int (-1) tk]}}
 refine tail_any (ops:=[.ref a,.ref s3.heap.objs.size]) pl.isList.typeIs slot_list_getitem.lookup ?_ (by with_unfolding_all rfl)
 refine wpAny_getItem_list_slice (st:=some (-1)) pl.isList (Heap.IsSliceOf.new ..) .none .none (.int (-1) tk) (by simp) ?_ (by rw[size_toArray]<;>omega)
 rw[PySem.W.krv_pick]
 have hr:Vals xs.reverse its.toArray.toList.reverse:=by simpa using r.reverse
 exact⟨.ref _,_,I4.laid (t':=s3.toks) (o:=.lst xs.reverse) (λb ob q=>gZ _ q) (le_refl _) ⟨by rw[length_reverse];exact hz,_,0,hr,get?_push_size _ rfl⟩,rfl,q _ (I4.hok.fresh (le_refl _))⟩
noncomputable def P0:V->Bool
 | .byt _=>false
 | .flt _=>false
 |_=>true
theorem CT{A:Around}{s:Shared}{x:V}{u v:Value}(r:RelV x u)(r':RelV x v)(hx:P0 x=true):SeqAt.EqAt A s u v true:=by
 cases x with
 |non=>cases r;cases r';exact SeqAt.EqAt.same _
 |bl b=>cases r;cases r';exact SeqAt.EqAt.same _
 |int i=>
  obtain⟨t,rfl⟩:=r;obtain⟨t',rfl⟩:=r'
  have:=SeqAt.EqAt.int_int (A:=A) (s:=s) i t i t'
  simpa using this
 |str i=>
  obtain⟨t,rfl⟩:=r;obtain⟨t',rfl⟩:=r'
  have:=SeqAt.EqAt.str_str (A:=A) (s:=s) i t i t'
  simpa using this
 |ref a=>cases r;cases r';exact SeqAt.EqAt.same _
 |ty n=>cases r;cases r';exact SeqAt.EqAt.same _
 |byt b=>cases hx
 |flt b=>cases hx
theorem HX{A:Around}{s:Shared}{xs:List V}{us vs:List Value}(r:Vals xs us)(r':Vals xs vs)(hx:xs.all P0=true)(j:Nat)(h1:j<us.toArray.size)(h2:j<vs.toArray.size):SeqAt.EqAt A s us.toArray[j] vs.toArray[j] true:=by
 have hj:j<xs.length:=by rw[r.length];simpa using h1
 obtain⟨u,hu,ru⟩:=r.get (i:=j) (x:=xs[j]) (by simp[hj])
 obtain⟨v,hv,rv⟩:=r'.get (i:=j) (x:=xs[j]) (by simp[hj])
 have e1:us.toArray[j]=u:=by
  have:us[j]? =some us.toArray[j]:=by simp
  rw[hu]at this;exact(Option.some.inj this).symm
 have e2:vs.toArray[j]=v:=by
  have:vs[j]? =some vs.toArray[j]:=by simp
  rw[hv]at this;exact(Option.some.inj this).symm
 rw[e1,e2]
 have hp:=all_eq_true.mp hx xs[j] (getElem_mem hj)
 exact CT ru rv hp
inductive rEqL (K:FZ) (k:Bool) (x:V) (y:V) (H:Hp) (Q:VK):Prop
 |mk:∀a b xs,(x=.ref a)->(y=.ref b)->(SqL K H a xs)->(SqL K H b xs)->(xs.all P0=true)->(Q (.bl k) H)->rEqL K k x y H Q
theorem XZ(hu:X.A.units<cLine):OpR X (compareOp .Eq) (rEqL X.K true):=by
 intro pins s σ H x y v u Q I rx ry h
 obtain⟨a,b,xs,rfl,rfl,ha,hb,hp,q⟩:=h
 cases rx;cases ry
 obtain⟨its,r,pl,_⟩:=I.list ha
 obtain⟨its2,r2,pl2,_⟩:=I.list hb
 have hl:its.length=its2.length:=by rw[<-r.length,<-r2.length]
 refine SeqAt.eq_listAt (e:=λ_=>true) pl.isList pl2.isList (by simpa using hl) hu (λj h1 h2=>HX r r2 hp j h1 h2) ⟨.bl true,H,I, ?_,q⟩
 have:((List.range its.toArray.size).all λ_=>true)=true:=by simp
 rw[this];rfl
theorem XT(hu:X.A.units<cLine):OpR X (compareOp .NotEq) (rEqL X.K false):=by
 intro pins s σ H x y v u Q I rx ry h
 obtain⟨a,b,xs,rfl,rfl,ha,hb,hp,q⟩:=h
 cases rx;cases ry
 obtain⟨its,r,pl,_⟩:=I.list ha
 obtain⟨its2,r2,pl2,_⟩:=I.list hb
 have hl:its.length=its2.length:=by rw[<-r.length,<-r2.length]
 refine SeqAt.RcNeAt.lists (e:=λ_=>true) pl.isList pl2.isList (by simpa using hl) hu (λj h1 h2=>HX r r2 hp j h1 h2) X.prog X.w X.xe _ ⟨.bl false,H,I, ?_,q⟩
 have:((List.range its.toArray.size).all λ_=>true)=true:=by simp
 rw[this];rfl
inductive rIsi (K:FZ) (xs:List V) (H:Hp) (Q:VK):Prop
 |mk:∀x c t b,(xs=[x,.ty c])->(TyOf K H x t)->(kitOne K t (.type c)=some b)->(Q (.bl b) H)->rIsi K xs H Q
theorem WW:CallR X (.builtin "isinstance") (rIsi X.K):=by
 intro pins s σ H xs us Q I r h
 obtain⟨x,c,t,b,rfl,ty,hk,q⟩:=h
 obtain⟨u,v,rfl,ru,rv⟩:=TJ r
 cases rv
 exact VB I ru ty hk λtk=>⟨.bl b,H,I.tok _,rfl,q⟩
structure TopD (w:World) (K:FZ) (a:Addr) (kvs:List (Str×V)):Prop where
 ex:∃(es:Array DictEntry) (n:Nat),K.lookup a=some ⟨.type "dict",none,.dict es n, #[]⟩/\PySem.W.KeysLit w.params es.toList/\Paired (λ(p:Str×V) (e:DictEntry)=>(∃t,e.key=.str p.1 t)/\RelV p.2 e.val) kvs es.toList
 lo:(a==sysModules)=false
theorem DJ{x:Str}:∀ {kvs:List (Str×V)} {es:List DictEntry},Paired (λ(p:Str×V) (e:DictEntry)=>(∃t,e.key=.str p.1 t)/\RelV p.2 e.val) kvs es->
  RelO (kvs.lookup x) ((es.find? λe=>Value.isStrOf x e.key).map (·.val))
 |_,_,.nil=>trivial
 |(k,v)::kvs,e::es,.cons ⟨⟨t,hk⟩,rv⟩ r=>by
  have hk':e.key=.str k t:=hk
  rw[lookup_cons,find?_cons,hk']
  by_cases hx:x=k
  ·subst hx
   have h1:Value.isStrOf x (.str x t)=true:=by simp[Value.isStrOf]
   rw[h1,beq_self_eq_true]
   exact rv
  ·have h1:Value.isStrOf x (.str k t)=false:=by
    cases h:Value.isStrOf x (.str k t)with
    |false=>rfl
    |true=>
     obtain⟨t',e'⟩:=Value.isStrOf_shape (x:=x) (v:=.str k t) h
     injection e' with e1 _
     exact absurd e1.symm hx
   have h2:(x==k)=false:=beq_eq_false_iff_ne.mpr hx
   rw[h1,h2]
   exact DJ r
theorem TopD.map{w:World}{K:FZ}{a:Addr}{kvs:List (Str×V)}(T:TopD w K a kvs){prog:Program}{h:Heap}(KX:K.In h):
  ∃f:Str->Option Value,h.MapOf (strKind prog w) a f/\∀x,RelO (kvs.lookup x) (f x):=by
 obtain⟨es,n,hl,hk,hp⟩:=T.ex
 refine⟨λk=>findBy Value.isStrOf es k,PySem.W.mapOf_K KX hl hk,λx=> ?_⟩
 have q:=DJ (x:=x) hp
 show RelO (List.lookup x kvs) ((es.find? λe=>Value.isStrOf x e.key).map (·.val))
 rw[<-Array.find?_toList]
 exact q
inductive rIxTop (w:World) (K:FZ) (x:V) (y:V) (H:Hp) (Q:VK):Prop
 |mk:∀a k kvs v,(x=.ref a)->(y=.str k)->(TopD w K a kvs)->(kvs.lookup k=some v)->(Q v H)->rIxTop w K x y H Q
theorem clZ:IxR X (rIxTop X.w X.K):=by
 intro value slice pins s σ H x y v u Q I rx ry h hs
 obtain⟨a,k,kvs,z,rfl,rfl,T,hz,q⟩:=h
 cases rx
 obtain⟨t,rfl⟩:=ry
 obtain⟨f,hm,hf⟩:=T.map (prog:=X.prog) I.kIn
 have hr:=hf k
 rw[hz]at hr
 obtain⟨w',e,r⟩:=hr.some_of
 exact tail_any hm.typeIs slot_dict_getitem.lookup (wpAny_getItem_of (strKind_is X.prog X.w k t) hm e ⟨z,H,I.tok _,r,q⟩) hs
theorem VE:OpR X (compareOp .In) (λx y H Q=>∃k a kvs,x=.str k/\y=.ref a/\TopD X.w X.K a kvs/\Q (.bl (kvs.lookup k).isSome) H):=by
 intro pins s σ H x y v u Q I rx ry h
 obtain⟨k,a,kvs,rfl,rfl,T,q⟩:=h
 cases ry
 obtain⟨t,rfl⟩:=rx
 obtain⟨f,hm,hf⟩:=T.map (prog:=X.prog) I.kIn
 have hr:=hf k
 have e:(f k).isSome=(kvs.lookup k).isSome:=by
  cases h1:kvs.lookup k with
  |none=>rw[h1]at hr;rw[hr.none_of];rfl
  |some z=>rw[h1]at hr;obtain⟨w',e,_⟩:=hr.some_of;rw[e];rfl
 exact wpAny_in_of (strKind_is X.prog X.w k t) T.lo hm ⟨.bl _,H,I.tok _,by rw[e];rfl,q⟩
theorem aWZ:OpR X (binaryOp .Add) (λx y H Q=>rI0 (λi j=> .int (i+j)) x y H Q\/(∃i j,x=.str i/\y=.str j/\i.length+j.length<=sizeLine/\Q (.str (i++j)) H)\/rCat x y H Q):=op_add.or (op_add_str.or op_cat)
theorem JP:OpR X (binaryOp .Mult) (λx y H Q=>rI CMul (λi j=> .int (i*j)) x y H Q\/(∃i n,x=.str i/\y=.int n/\0<=n/\n<=16777216/\i.length*n.toNat<=16777216/\Q (.str (Txt.mul i n)) H)\/dbZ x y H Q):=op_mul.or (op_mul_str.or cnZ)
theorem uEq(hu:X.A.units<cLine):OpR X (compareOp .Eq) (λx y H Q=>rEq x y H Q\/rEqL X.K true x y H Q):=op_eq.or (XZ hu)
theorem uNe(hu:X.A.units<cLine):OpR X (compareOp .NotEq) (λx y H Q=>rNe x y H Q\/rEqL X.K false x y H Q):=op_ne.or (XT hu)
theorem uIn:OpR X (compareOp .In) (λx y H Q=>(∃i j,x=.str i/\y=.str j/\Q (.bl (!(Builtin.Str.occurrences j i 0 j.length 1).isEmpty)) H)\/rIn X.K false x y H Q\/(∃k a kvs,x=.str k/\y=.ref a/\TopD X.w X.K a kvs/\Q (.bl (kvs.lookup k).isSome) H)):=op_in_str.or (op_in_seq.or VE)
theorem crZ:OpR X (compareOp .NotIn) (λx y H Q=>(∃i j,x=.str i/\y=.str j/\Q (.bl (!(!(Builtin.Str.occurrences j i 0 j.length 1).isEmpty))) H)\/rIn X.K true x y H Q):=op_notIn_str.or JU
theorem cbZ:IxR X (λx y H Q=>rIxL X.K x y H Q\/rIxT X.K x y H Q\/rIxS x y H Q\/rIxTop X.w X.K x y H Q):=ix_list.or (ix_tup.or (ix_str.or clZ))
theorem sl_any:SlR X (λx lo hi H Q=>rSlL X.K x lo hi H Q\/rSlT X.K x lo hi H Q):=sl_list.or ckZ
inductive tCut (t:TS) (D:Ends) (σ:St) (H:Hp):Prop
 |mk:∀R:St->Hp->Prop,(t {D with nx:=R} σ H)->(∀σ' H',R σ' H'->D.nx σ' H')->tCut t D σ H
theorem D8{st:Stmt}{t:TS}(h:PS X st t):PS X st (tCut t):=λpins s σ H D I ⟨R,q,hR⟩=>thn (h pins s σ H _ I q) λf s' hs=>by
 cases f with
 |next=>obtain⟨σ',H',I',r⟩:=hs;exact⟨σ',H',I',hR σ' H' r⟩
 |brk=>exact hs
 |cont=>exact hs
 |ret v=>exact hs
variable{K:FZ}{w:World}
theorem kEq(hu:X.A.units<cLine)(hK:X.K=K:=by rfl):OpR X (compareOp .Eq) (λx y H Q=>rEq x y H Q\/rEqL K true x y H Q):=by subst hK;exact uEq hu
theorem kNe(hu:X.A.units<cLine)(hK:X.K=K:=by rfl):OpR X (compareOp .NotEq) (λx y H Q=>rNe x y H Q\/rEqL K false x y H Q):=by subst hK;exact uNe hu
theorem kIn(hK:X.K=K:=by rfl)(hw:X.w=w:=by rfl):OpR X (compareOp .In) (λx y H Q=>(∃i j,x=.str i/\y=.str j/\Q (.bl (!(Builtin.Str.occurrences j i 0 j.length 1).isEmpty)) H)\/rIn K false x y H Q\/(∃k a kvs,x=.str k/\y=.ref a/\TopD w K a kvs/\Q (.bl (kvs.lookup k).isSome) H)):=by
 subst hK;subst hw;exact uIn
theorem btZ(hK:X.K=K:=by rfl):OpR X (compareOp .NotIn) (λx y H Q=>(∃i j,x=.str i/\y=.str j/\Q (.bl (!(!(Builtin.Str.occurrences j i 0 j.length 1).isEmpty))) H)\/rIn K true x y H Q):=by subst hK;exact crZ
theorem kIx(hK:X.K=K:=by rfl)(hw:X.w=w:=by rfl):IxR X (λx y H Q=>rIxL K x y H Q\/rIxT K x y H Q\/rIxS x y H Q\/rIxTop w K x y H Q):=by subst hK;subst hw;exact cbZ
theorem J9(hK:X.K=K:=by rfl):CallR X (.builtin "len") (rLen K):=by subst hK;exact WX
theorem X7(hK:X.K=K:=by rfl):CallR X (.type "list") (λxs H Q=>∃p ys,xs=[.ref p]/\(SqL K H p ys\/SqT K H p ys)/\∀l,H l=none->Q (.ref l) (upd H l (.lst ys))):=by subst hK;exact JN
theorem ED(hK:X.K=K:=by rfl):CallR X (.type "tuple") (λxs H Q=>∃p ys,xs=[.ref p]/\((SqL K H p ys/\∀l,H l=none->Q (.ref l) (upd H l (.tup ys)))\/SqT K H p ys/\Q (.ref p) H)):=by subst hK;exact HC
theorem dxZ(hc:X.calm=true)(hK:X.K=K:=by rfl):CallR X (.builtin "max") (λxs H Q=>(∃i j,xs=[.int i,.int j]/\Q (.int (if j>i then j else i)) H)\/
  (∃(p:Addr) (ns:List Int),xs=[.ref p]/\SqL K H p (ns.map V.int)/\0<ns.length/\∀M:Int,M∈ns->(∀a∈ns,a<=M)->Q (.int M) H)):=by subst hK;exact WR hc
theorem S4(hK:X.K=K:=by rfl):CallR X (.builtin "isinstance") (rIsi K):=by subst hK;exact WW
variable{o e st l c:Expr}{es:List Expr}{to te ts tl:TE}{t:TA}{name:Str}{apos cpos pos p2:Pos}{T id:String}{r:V->List V->Hp->VK->Prop}{tg:Expr}
theorem IF(pa:PlainAttrs T)(slot:Slot T name id)(hty:typeOf (.builtin id)=pure (.type "method_descriptor"))(hm:MtR X id r)(ho:PE X o to)(hK:X.K=K:=by rfl)
  (hbase:attributeBase o name X.env (eval o X.env)=eval o X.env:=by rfl)(hline:(apos.endLine==cpos.line)=true:=by rfl):PE X (.Call (.Attribute o name apos) [] [] cpos) (c3Z K T r to):=by
 subst hK;exact b1Z pa slot hty hm ho hbase hline
theorem M9(pa:PlainAttrs T)(slot:Slot T name id)(hty:typeOf (.builtin id)=pure (.type "method_descriptor"))(hm:MtR X id r)(ho:PE X o to)(ha:PA X (e::es) t)(hK:X.K=K:=by rfl)
  (hbase:attributeBase o name X.env (eval o X.env)=eval o X.env:=by rfl)
  (hfew:((backTo cpos (starEach (e::es) X.env)).all (λx=> !x.1)&&(backToKw cpos (keywordEach [] X.env)).all (λx=>x.1.isSome)
   &&decide ((e::es).length+([]:List Keyword).length+(if([]:List Keyword).isEmpty then 0 else 1)<30))=true:=by rfl)
  (hline:(apos.endLine==cpos.line)=true:=by rfl)(hs:starEach (e::es) X.env=(false,eval e X.env)::starEach es X.env:=by rfl)(hplain:(backTo cpos (starEach es X.env)).any (·.1)=false:=by rfl):
  PE X (.Call (.Attribute o name apos) (e::es) [] cpos) (tBM K T r to t):=by
 subst hK;exact dhZ pa slot hty hm ho ha hbase hfew hline hs hplain
theorem Z4(hl:PE X l tl)(hK:X.K=K:=by rfl):PI X tg l (a4Z K tl):=by subst hK;exact aAZ hl
theorem ciZ(hl:PE X l tl)(hK:X.K=K:=by rfl):PI X tg l (c8Z K tl):=by subst hK;exact coZ hl
theorem cKZ(he:PE X e te)(hst:PE X st ts)(hK:X.K=K:=by rfl):PE X (.Subscript e (.Slice none none (some st) p2) pos) (c5Z K te ts):=by subst hK;exact b8Z he hst
noncomputable def dPZ(K:FZ)(ta:TE):TT:=fun σ H Q=>ta σ H λx H'=>∃k,bGZ K x H' k/\Q k H'
theorem N1(ha:PE X e te)(he:∀whole,isTrue e X.env whole=(do let v<-whole;standAt e.pos;holding [v] (truthy v)))(hK:X.K=K:=by rfl):PT X e (dPZ K te):=by subst hK;exact WL ha he
end
theorem CK{σ:St}{H:Hp}{A B:Hp->Prop}(h:A H):SI σ H (λb H2=>if b=true then A H2 else B H2):=by
 show if true=true then A H else B H
 rw[if_pos rfl];exact h
theorem FU(xs:List V)(k:Nat):G9 xs (some (k:Int)) none=xs.drop k:=by
 unfold G9
 rw[HT.sIx_nat,HT.sIx_none]
 by_cases h:k<=xs.length
 ·rw[min_eq_left h,take_of_length_le (by simp)]
 ·rw[Nat.min_eq_right (by omega),List.drop_eq_nil_of_le (le_refl _),List.drop_eq_nil_of_le (by omega)]
  simp
theorem PK(xs:List V)(k:Nat):G9 xs none (some (k:Int))=xs.take k:=by
 unfold G9
 rw[HT.sIx_nat,HT.sIx_none]
 simp only[drop_zero,sub_zero]
 by_cases h:k<=xs.length
 ·rw[min_eq_left h]
 ·rw[Nat.min_eq_right (by omega),take_of_length_le (le_refl _),take_of_length_le (by omega)]
section
variable{M:Model}{A:Around}{E:Value->Shared->Prop}{s:Shared}
variable{X:Cx}{pins:List (Addr×Obj)}{σ:St}{H1 H2:Hp}{s1:Shared}{h1 h2:Heap}
end
section
variable{P:Program}{w:World}{K:FZ}{mg:Str->Option Value}{base:Heap}{N:List Str}{qual:Str}{scope:Scope}{f:Addr}{cd:Value}{A:Around}{outer:List Env}{s:Shared}{H:Hp}{E:XK}
 {pins:List (Addr×Obj)}{σ:St}{H1:Hp}{s1:Shared}
variable{h g:Heap}{a:Addr}{C:Value}
variable{fs:List Addr}{H1 H2:Hp}{h0 h1 h2:Heap}
variable{X:Cx}{pins:List (Addr×Obj)}{σ:St}{s1 s2:Shared}
end
section
variable{M:Model}{A:Around}{E:Value->Shared->Prop}{h:Heap}{g:Array GenState}{d:Drawn}{t:Nat}{os:OsState}
variable{X:Cx}{pins:List (Addr×Obj)}{σ:St}{H:Hp}{s:Shared}{e:Value}
variable{xe:Value->Shared->Prop}
end
noncomputable abbrev TEX:=St->Hp->VK->XK->Prop
noncomputable abbrev TSX:=Ends->(St->XK)->St->Hp->Prop
section
variable{X:Cx}{k:Nat}{f C:Addr}{fd:FuncData}{ps:List Str}{sp:Sp}{dvs:List V}{ds:List Value}{x m:Str}{p pos apos:Pos}{e o:Expr}{es:List Expr}{ta:TE}{t:TA}
end
section
variable{X:Cx}{e:Expr}{pos:Pos}{t:TEX}{st:Stmt}{rest:List Stmt}{a b:List Stmt}{ta tb:TSX}
variable{x n:Str}{np hpos:Pos}{body suite:List Stmt}{b₀:Stmt}{i:Nat}{ts:TS}{D0:Addr}{Ok:Addr->Prop}
end
section
variable{prog:Program}{w:World}{A:Around}{E:Value->Shared->Prop}{h:Heap}{g:Array GenState}{d:Drawn}{t:Nat}{os:OsState}{a C:Addr}{o:Obj}{bm bmB:List Value}{nid:String}
variable{X:Cx}{pins:List (Addr×Obj)}{σ:St}{H:Hp}{s:Shared}
variable{tg:Expr}
noncomputable def dOZ:V->Option Int->Option Int->Hp->VK->Prop:=λx lo hi H Q=>∃z,x=.str z/\z.length<=sizeLine/\Q (.str (Txt.slice z lo hi)) H
theorem RR{v:Value}{k:Option Int}(p:IsPart v k):∃o:Option (Int×Tok),partValue o=v/\o.map (·.1)=k:=by
 cases p with
 |none=>exact⟨none,rfl,rfl⟩
 |int i t=>exact⟨some (i,t),rfl,rfl⟩
theorem bZZ:SlR X dOZ:=by
 intro pins s σ H x v vl vu lo hi sl Q I rx hs pl pu h
 obtain⟨z,rfl,hz,q⟩:=h
 obtain⟨t,rfl⟩:=rx
 obtain⟨l,el,ml⟩:=RR pl
 obtain⟨u,eu,mu⟩:=RR pu
 refine⟨"str",_,F.slot_str_getitem.lookup,typeIs_str _ _ _, ?_⟩
 obtain⟨o,h1,h2,h3⟩:=hs
 refine wpAny_getItem_str_slice (l:=l) (u:=u) (st:=none) ⟨o,h1,h2,by rw[el,eu];exact h3⟩ rfl ?_
 have e:sliceMade z t l u none=if((1:Int)==1&&(Builtin.Str.strSliceIndices lo hi 1 z.length).length==z.length)=true then .val (.str z t)else .str ⟨((Builtin.Str.strSliceIndices lo hi 1 z.length).filterMap (z.cps[·]?)).toArray⟩:=by
  subst ml mu;rfl
 rw[e]
 refine post_val_or_str ⟨le_trans (Txt.slice_le z lo hi) hz,λt' k=> ?_⟩
 exact⟨.str (Txt.slice z lo hi),H,I.tok _,⟨_,rfl⟩,q⟩
theorem VN{bs:List Bool}{its:List Value}(r:Vals (bs.map V.bl) its){i:Nat}{v:Value}(e:its[i]? =some v):v=.bool (bs.getD i false):=by
 have hl:=r.length
 obtain⟨hi,_⟩:=List.getElem?_eq_some_iff.mp e
 have hb:i<bs.length:=by rw[length_map]at hl;omega
 have hx:(bs.map V.bl)[i]? =some (V.bl (bs.getD i false)):=by simp[hb]
 obtain⟨u,e2,ru⟩:=r.get hx
 rw[e]at e2;cases e2
 exact ru
theorem VI(bs:List Bool):((List.range bs.length).all λi=>bs.getD i false)=bs.all id:=by
 rw[Bool.eq_iff_iff,all_eq_true,all_eq_true]
 constructor
 ·intro h x hx
  obtain⟨i,hi,e⟩:=List.getElem_of_mem hx
  have:=h i (mem_range.mpr hi)
  simpa [List.getD_eq_getElem?_getD,List.getElem?_eq_getElem hi,e]using this
 ·intro h i hi
  have hi:=mem_range.mp hi
  have:=h bs[i] (getElem_mem hi)
  simpa [List.getD_eq_getElem?_getD,List.getElem?_eq_getElem hi]using this
theorem VU(hc:X.calm=true):CallR X (.builtin "all") (λxs H Q=>∃(p:Addr) (bs:List Bool),xs=[.ref p]/\SqL X.K H p (bs.map V.bl)/\Q (.bl (bs.all id)) H):=by
 intro pins s σ H vs us Q I r h
 obtain⟨p,bs,rfl,hS,q⟩:=h
 obtain⟨u,rfl,ru⟩:=BA r
 cases ru
 obtain⟨its,rv,pl,hz⟩:=I.list hS
 have hl:its.length=bs.length:=by have:=rv.length;rw[length_map]at this;omega
 refine call_all_walk (wpAny_pyIter_list pl.isList ?_)
 obtain⟨ol,el,cl,dl⟩:=id pl.isList
 have hpne:p≠s.heap.objs.size:=ne_of_lt (lt_size el)
 have W:=Walks.list (prog:=X.prog) (w:=X.w) (A:=X.A.in1) (show X.A.in1.handled=none from I.ok.hd hc) s.heap.objs.size p hpne its.toArray
 refine⟨s.heap.objs.size,[s.heap.objs.size,p],[s.heap.objs.size],its.toArray.size,_,_,λi=>bs.getD i false,rfl,W,⟨⟨_,get?_push_size _ rfl,rfl,rfl⟩,⟨ol,gZ _ el,cl,dl⟩⟩, ?_, ?_⟩
 ·intro i v s' Q' E' hP hQ
  have e:v=.bool (bs.getD i false):=VN rv (by simpa using hP)
  subst e
  exact pZ hQ
 ·intro h' tk hk
  have e:((List.range its.toArray.size).all λi=>bs.getD i false)=bs.all id:=by
   rw[size_toArray,hl];exact VI bs
  rw[e]
  refine⟨.bl (bs.all id),H,I.kept (t':=tk) λb o e=>hk b o (λz=> ?_) (gZ _ e),rfl,q⟩
  have z':b=s.heap.objs.size:=by simpa using z
  subst z'
  exact absurd (lt_size e) (lt_irrefl _)
variable{e v1 v2:Expr}{es:List Expr}{te:TE}{tp t:St->Hp->(Hp->Prop)->Prop}{pos:Pos}
variable{K:FZ}
theorem YX(hc:X.calm=true)(hK:X.K=K:=by rfl):CallR X (.builtin "all") (λxs H Q=>∃(p:Addr) (bs:List Bool),xs=[.ref p]/\SqL K H p (bs.map V.bl)/\Q (.bl (bs.all id)) H):=by subst hK;exact VU hc
end
noncomputable abbrev tx(l:List Nat):Str:=⟨l.toArray⟩
theorem PV(l:List Nat):(tx l).length=l.length:=by simp[Str.length]
theorem BZ{a b:List Nat}(h:tx a=tx b):a=b:=by
 have:=congrArg (λs:Str=>s.cps.toList) h
 simpa using this
end L2
namespace PySem
end PySem
namespace L2
open PySem PySem.Spec PyProof.Rows
section
variable{X:Cx}
variable{o e f:Expr}{td:TE}{t:TA}{apos cpos:Pos}{K:FZ}{w:World}
variable{K:FZ}
variable{P:Program}{w:World}{mg:Str->Option Value}{base:Heap}{A:Around}{CX:CXT}{E:XK}{x:Str}{p pos:Pos}{e:Expr}{es:List Expr}{tf:TE}{t:TA}
end
theorem DF:bootBuiltins "reversed"=some (.type "reversed"):=by decide +kernel
noncomputable def Itv(K:FZ)(a:Addr)(n:Nat):It:=
 ⟨λi H=>∃xs x,SqL K H a xs/\xs.reverse[i]? =some x/\xs.length=n,λi H x H'=>H'=H/\∀xs,SqL K H a xs->xs.reverse[i]? =some x,λi _=>i=n⟩
theorem YV{P:Program}{w:World}{K:FZ}{tg:Expr}(a it:Addr)(n:Nat):Turn P w K tg (Itv K a n) [it] it (λi h=>h.IsRevIter it a ((n:Int) - 1 - (i:Int))) where
 mem:=by simp
 obj:=λi h st b hb=>by
  have e:b=it:=by simpa using hb
  subst e
  obtain⟨o,e,c,d⟩:=st
  exact⟨o,e,λv z=>by rw[d]at z;cases z⟩
 keep:=λi h h' st k=>st.at λo e=>k it (by simp) o e
 item:=by
  intro X hP hw hK hc i pins s σ H E I hf st hg
  subst hP hw hK
  obtain⟨xs,x,hq,hx,hn⟩:=hg
  obtain⟨its,rv,p,hz⟩:=I.list hq
  have hlt:i<xs.length:=by
   have:=(List.getElem?_eq_some_iff.mp hx).1
   simpa using this
  rw[getElem?_reverse hlt]at hx
  obtain⟨u,hu,ru⟩:=rv.get hx
  obtain⟨f0,f1,f2,f3,f4,f5⟩:=hf it (by simp)
  have e1:(n:Int) - 1 - (i:Int)=((xs.length - 1 - i:Nat):Int):=by omega
  have st1:=st
  rw[e1]at st1
  refine wpAny_pyNext_rev_item st1 p.isList (x:=u) (by simpa using hu) λh' st' sb=> ?_
  have I1:Inv X pins σ H {s with heap:=h'}:=I.turned (t':=s.toks) (λb o hb e=>(sb.2 b hb).trans e) f0 f1 f3 f4 f5
  have e2:((xs.length - 1 - i:Nat):Int) - 1=(n:Int) - 1 - ((i+1:Nat):Int):=by omega
  rw[e2]at st'
  obtain⟨o,e,c,d⟩:=id st'
  exact⟨u,rfl,SX (s:={s with heap:=h'}) e c d (by decide) ⟨x,H,I1,ru,⟨rfl,λys hy=>by rw[I.list_inj hy hq,getElem?_reverse hlt];exact hx⟩,st',λb hb=>(hf b hb).1⟩⟩
 done:=by
  intro X hP hw hK hc i pins s σ H E I hf st hg
  subst hP hw hK
  obtain⟨f0,f1,f2,f3,f4,f5⟩:=hf it (by simp)
  have hi:i=n:=hg
  have e1:(n:Int) - 1 - (i:Int)= -1:=by omega
  rw[e1]at st
  exact wpAny_pyNext_rev_end (I.ok.hd hc) st λh' eb=>⟨rfl,I.turned (t':=s.toks) (λb o hb e=>eb b o hb e) f0 f1 f3 f4 f5⟩
 self:=λ_ _ _ _ _ st h=>wpAny_pyIter_revIter st h
section
variable{X:Cx}{tg:Expr}{K:FZ}
noncomputable def d3Z(K:FZ)(ta:TA):TI:=fun σ H R=>ta σ H λvs H1=>∃a xs,vs=[.ref a]/\SqL K H1 a xs/\R (Itv K a xs.length) H1
theorem ceZ{a:Expr}{ta:TA}{p pos:Pos}(hg:Gl X "reversed")(hm:X.mg "reversed"=none)(ha:PA X [a] ta)(hK:X.K=K:=by rfl)(hs:starEach [a] X.env=[(false,eval a X.env)]:=by rfl):PI X tg (.Call (.Name "reversed" p) [a] [] pos) (d3Z K ta):=by
 subst hK
 intro pins s σ H R I h
 refine Call_ (AW I hg hm DF (callWith_type1 (thn (ha pos pins s σ H _ I h) λus s1 ⟨vs,H1,I1,r1,q1⟩=> ?_) hs rfl))
 obtain⟨l,xs,e,hq,q⟩:=q1
 subst e
 cases r1 with
 |cons r rr=>
  cases rr
  cases r
  obtain⟨its,rv,pl,hz⟩:=I1.list hq
  have hl:its.toArray.size=xs.length:=by rw[size_toArray];exact rv.length.symm
  refine call_reversed_list pl.isList ?_
  have st:(s1.heap.push (revObj l ((its.toArray.size:Int) - 1))).IsRevIter s1.heap.objs.size l ((xs.length:Int) - 1 - ((0:Nat):Int)):=⟨_,get?_push_size _ rfl,rfl,by rw[hl];simp[revObj]⟩
  refine wpAny_pyIter_revIter st ?_
  refine⟨s1.heap.objs.size,[s1.heap.objs.size],_,_,H1,rfl,I1.kept (t':=s1.toks) λb o e=>gZ _ e,YV l _ xs.length,st,λb hb=> ?_,q⟩
  have e:b=s1.heap.objs.size:=by simpa using hb
  subst e
  exact I1.fpOk (le_refl _) (I1.hok.fresh (le_refl _))
end
theorem ZW{K:FZ}{a:Addr}{xs:List V}{g:TG}{tb:TS}{D:Ends}{σ:St}{H:Hp}(Pv:Nat->St->Hp->Prop)(h0:Pv 0 σ H)(hl:∀i σ H,i<=xs.length->Pv i σ H->SqL K H a xs)
  (hs:∀i x σ H,xs.reverse[i]? =some x->Pv i σ H->g x σ H fun σ2 H2=>tb {D with nx:=Pv (i+1),ct:=Pv (i+1),bk:=D.nx} σ2 H2)(hd:∀σ H,Pv xs.length σ H->D.nx σ H):
  ∃W:Nat->Nat->St->Hp->Prop,(∃m,W 0 m σ H)/\∀i m σ H,W i m σ H->
   ((Itv K a xs.length).stop i H/\D.nx σ H)\/((Itv K a xs.length).go i H/\∃N:St->Hp->Prop,(∀σ' H',N σ' H'->∃m',m'<m/\W (i+1) m' σ' H')/\∀x H',(Itv K a xs.length).yld i H x H'->g x σ H' fun σ2 H2=>tb {D with nx:=N,ct:=N,bk:=D.nx} σ2 H2):=by
 refine⟨λi m σ H=>m=xs.length - i/\i<=xs.length/\Pv i σ H,⟨xs.length,by simp,zero_le _,h0⟩, ?_⟩
 rintro i m σ H ⟨rfl,hi,p⟩
 have q:=hl i σ H hi p
 by_cases hlt:i<xs.length
 ·have hlt':i<xs.reverse.length:=by rw[length_reverse];exact hlt
  refine .inr ⟨⟨xs,xs.reverse[i],q,List.getElem?_eq_getElem hlt',rfl⟩,Pv (i+1),fun σ' H' p'=>⟨xs.length - (i+1),by omega,rfl,hlt,p'⟩,λx H' y=> ?_⟩
  obtain⟨e,y⟩:=y
  subst e
  exact hs i x σ _ (y xs q) p
 ·have e:i=xs.length:=by omega
  subst e
  exact .inl ⟨rfl,hd σ H p⟩
end L2
namespace PySem
namespace F
theorem nolen_lri:typeLookup (.type "list_reverseiterator") "__len__"=pure none:=by rw[typeLookup_type,builtinLookup_eq_fast];kernel_rfl
theorem hint_lri:typeLookup (.type "list_reverseiterator") "__length_hint__"=pure (some (.builtin "list_reverseiterator.__length_hint__")):=by rw[typeLookup_type,builtinLookup_eq_fast];kernel_rfl
end F
section
variable{prog:Program}{w:World}{A:Around}{E:Value->Shared->Prop}{s:Shared}
noncomputable abbrev X5(items:Array Value):Nat->Value->Prop:=λi v=>items[items.size - 1 - i]? =some v
theorem CW{R:Result->Shared->Prop}(hh:A.handled=none){I l:Addr}{items:Array Value}(hit:s.heap.IsRevIter I l ((items.size:Int) - 1))(hl:s.heap.IsList l items)(hne:l≠I)(S:Addr)(res:Value)(c₀:Nat)
  (hS:s.heap.get? S=some {cls:=.type "list",data:=.seq #[] c₀})(hSI:S≠I)(hSl:S≠l)
  (hR:∀h' tk acc' c',(∀b o,b≠S->b≠I->s.heap.get? b=some o->h'.get? b=some o)->h'.get? S=some {cls:=.type "list",dict:=none,data:=.seq acc' c',slots:= #[]}->
   ItemsOf (X5 items) acc' items.size->R (.ok (.ret res)) {s with heap:=h',toks:=tk})(hn:items.size<=sizeLine):
  wpAny (model prog w) A.in1 (Builtin.List.listExtendWith (.ref S) (.ref I) res)
   (λfin s'=>match fin with| .done f=>R (.ok f) s'| .again c'=>c'.quiet=true/\codeAny (model prog w) A c' R s') (λe s'=>R (.error e) s') s:=by
 have hSf:S∉ [I,l]:=λhm=>by
  rcases cZ hm with e|hm
  ·exact hSI e
  ·exact hSl (sZ hm)
 have W:=(Walks.listRev (prog:=prog) (w:=w) (A:=A.in1) hh I l hne items).toS
 have hit0:s.heap.IsRevIter I l ((items.size:Int) - 1 - ((0:Nat):Int)):=by
  have e:(items.size:Int) - 1 - ((0:Nat):Int)=(items.size:Int) - 1:=by omega
  rw[e];exact hit
 unfold Builtin.List.listExtendWith
 refine bZ (wpAny_typeOf (T:="list_reverseiterator") hit.typeIs ?_)
 have h1:Builtin.List.listSameRef (.ref S) (.ref I)=false:=by simp[Builtin.List.listSameRef,hSI]
 have h2:(Value.type "list_reverseiterator"==Value.type "list")=false:=by decide
 have h3:(Value.type "list_reverseiterator"==Value.type "tuple")=false:=by decide
 simp only[h1,h2,h3,Bool.or_false,Bool.false_eq_true,if_false]
 refine bZ (wpAny_pyIter_revIter hit ?_)
 refine bZ (wpAny_holding ?_)
 unfold Builtin.List.listLengthHint
 refine bZ (wpAny_specialOf hit.typeIs F.nolen_lri ?_)
 show wpAny _ A.in1 (specialOf (Value.ref I) (Str.ofString "__length_hint__")>>=_) _ _ _
 refine bZ (wpAny_specialOf hit.typeIs F.hint_lri ?_)
 generalize hid:("list_reverseiterator.__length_hint__":String)=id0
 wp_delta
 rw[show splitId id0=some ("list_reverseiterator","__length_hint__")from by subst hid;decide +kernel]
 subst hid
 refine bZ (wpAny_isInstance (b:=true) hit.typeIs (by rw[isSubtype_type];kernel_rfl) ?_)
 refine pZ ?_
 rw[if_neg (by decide)]
 refine pZ ⟨plainId_quiet F.plain_extend_loop _,codeAny_extend_loopS W hn _ hSf _ items.size 0 _ _ _ rfl (zero_le _) ⟨zero_le _,hit0,hl⟩ hS (ItemsOf.nil _) λs' acc' c' hm hS' hacc=> ?_⟩
 rw[Moved.eq_with hm]
 refine hR s'.heap s'.toks acc' c' (λb ob hb hb2 e=>hm.heap b ob (λhmem=> ?_) e) hS' hacc
 rcases cZ hmem with e'|hmem
 ·exact hb e'
 ·exact hb2 (sZ hmem)
theorem Z5{R:Result->Shared->Prop}(hh:A.handled=none){I l:Addr}{items:Array Value}(hit:s.heap.IsRevIter I l ((items.size:Int) - 1))(hl:s.heap.IsList l items)(hne:l≠I)(S:Addr)(hSI:S≠I)(hSl:S≠l)
  (hS:s.heap.get? S=some {cls:=.type "list",data:=.seq #[]})
  (hR:∀h' tk acc' c',(∀b o,b≠S->b≠I->s.heap.get? b=some o->h'.get? b=some o)->h'.get? S=some {cls:=.type "list",dict:=none,data:=.seq acc' c',slots:= #[]}->
   ItemsOf (X5 items) acc' items.size->R (.ok (.ret .none)) {s with heap:=h',toks:=tk})(hn:items.size<=sizeLine):
  wpAny (model prog w) A.in1 (Builtin.«list.__init__» ⟨[.ref S,.ref I],[]⟩)
   (λfin s'=>match fin with| .done f=>R (.ok f) s'| .again c'=>c'.quiet=true/\codeAny (model prog w) A c' R s') (λe s'=>R (.error e) s') s:=by
 show wpAny _ _ (do let old<-Builtin.List.listItems (.ref S);Builtin.List.listUpdate (.ref S) (λ_=> #[]);letGo old.toList.reverse;Builtin.List.listExtendWith (.ref S) (.ref I) .none) _ _ s
 refine bZ ?_
 unfold Builtin.List.listItems
 refine bZ (wpAny_seqItems hS rfl (pZ ?_))
 show wpAny _ _ (updateSeq S (λ_=> #[])>>=λ_=>letGo (#[]:Array Value).toList.reverse>>=λ_=>Builtin.List.listExtendWith (.ref S) (.ref I) .none) _ _ s
 refine bZ (wpAny_updateSeq hS rfl ?_)
 have hS₂:=Heap.get?_update_self (Obj.mapSeq (λ_=>(#[]:Array Value))) hS rfl
 have oth:∀b o,b≠S->s.heap.get? b=some o->(s.heap.update S (Obj.mapSeq (λ_=>(#[]:Array Value)))).get? b=some o:=
  λb o hb e=>(Heap.get?_update_other _ _ (Ne.symm hb)).trans e
 refine bZ (wpAny_letGo ?_)
 refine CW hh (hit.at λo e=>oth I o (Ne.symm hSI) e) (hl.at λo e=>oth l o (Ne.symm hSl) e) hne S .none _ hS₂ hSI hSl (λh' tk acc' c' hk hS' hacc=> ?_) hn
 exact hR h' tk acc' c' (λb o hb hb2 e=>hk b o hb hb2 (oth b o hb e)) hS' hacc
theorem GW{Q:Value->Shared->Prop}(hh:A.handled=none){I l:Addr}{items:Array Value}(hit:s.heap.IsRevIter I l ((items.size:Int) - 1))(hl:s.heap.IsList l items)(hne:l≠I)
  (hQ:∀h' tk acc' c',(∀b o,b≠I->s.heap.get? b=some o->h'.get? b=some o)->
   h'.get? s.heap.objs.size=some {cls:=.type "list",dict:=none,data:=.seq acc' c',slots:= #[]}->ItemsOf (X5 items) acc' items.size->Q (.ref s.heap.objs.size) {s with heap:=h',toks:=tk})(hn:items.size<=sizeLine):
  wpAny (model prog w) A (call (.type "list") [.ref I]) Q E s:=by
 have ltI:I<s.heap.objs.size:=let⟨o,e,_⟩:=hit;lt_size e
 have ltl:l<s.heap.objs.size:=let⟨o,e,_⟩:=hl;lt_size e
 refine callType_codes (Q₁:=λobj s₁=>obj=.ref s.heap.objs.size/\s₁={s with heap:=s.heap.push {cls:=.type "list",data:=.seq #[]}}) F.called_list (F.typeCall_list_1 _) F.entry_list_init
  (code_list_new _ ⟨rfl,rfl⟩) λobj s₁ h₁=> ?_
 obtain⟨rfl,rfl⟩:=h₁
 have hS:(s.heap.push {cls:=.type "list",data:=.seq #[]}).get? s.heap.objs.size=some {cls:=.type "list",data:=.seq #[]}:=get?_push_size _ rfl
 refine⟨⟨_,hS,rfl⟩,F.args_list_init_2 _ _,Z5 (A:=A.in1) hh (hit.at λo e=>gZ _ e) (hl.at λo e=>gZ _ e) hne _ (Nat.ne_of_gt ltI) (Nat.ne_of_gt ltl) hS (λh' tk acc' c' hk hS' hacc=> ?_) hn⟩
 exact⟨rfl,hQ h' tk acc' c' (λb o hb e=>hk b o (ne_of_lt (lt_size e)) hb (gZ _ e)) hS' hacc⟩
theorem US{its:List Value}{acc:Array Value}(h:ItemsOf (X5 its.toArray) acc its.toArray.size):acc=its.reverse.toArray:=by
 obtain⟨h1,h2⟩:=h
 refine Array.ext (by simpa using h1) λi hi hi2=> ?_
 have e:=h2 i acc[i] (Array.getElem?_eq_getElem hi)
 have e':its[its.length - 1 - i]? =some acc[i]:=by simpa [X5]using e
 have hlt:i<its.length:=by simpa using hi2
 have e2:its.reverse[i]? =some acc[i]:=by rw[getElem?_reverse hlt];exact e'
 have e3:its.reverse.toArray[i]? =some acc[i]:=by simpa using e2
 rw[Array.getElem?_eq_getElem hi2]at e3
 exact(Option.some.inj e3).symm
end
end PySem
namespace L2
open PySem PySem.Spec PyProof.Rows
theorem Vals.rev{vs:List V}{us:List Value}(h:Vals vs us):Vals vs.reverse us.reverse:=by
 induction h with
 |nil=>exact .nil
 |cons r _ ih=>rw[reverse_cons,reverse_cons];exact ih.append (.cons r .nil)
section
variable{X:Cx}{K:FZ}
noncomputable def ZK(K:FZ)(ta:TA):TE:=fun σ H Q=>ta σ H λvs H1=>∃a xs,vs=[.ref a]/\SqL K H1 a xs/\∀r,H1 r=none->Q (.ref r) (upd H1 r (.lst xs.reverse))
theorem QP{a:Expr}{ta:TA}{p p' pos pos':Pos}(hg:Gl X "reversed")(hm:X.mg "reversed"=none)(hg':Gl X "list")(hm':X.mg "list"=none)(hc:X.calm=true)(ha:PA X [a] ta)(hK:X.K=K:=by rfl)(hs:starEach [a] X.env=[(false,eval a X.env)]:=by rfl)
  (hs':starEach [.Call (.Name "reversed" p) [a] [] pos] X.env=[(false,eval (.Call (.Name "reversed" p) [a] [] pos) X.env)]:=by rfl):
  PE X (.Call (.Name "list" p') [.Call (.Name "reversed" p) [a] [] pos] [] pos') (ZK K ta):=by
 subst hK
 intro pins s σ H Q I h
 refine wpAny_Call_Name_kw (AW I hg' hm' N0 ?_)
 refine callWith_type1 ?_ hs' rfl
 rw[hs']
 refine Calls.spliced_cons (Call_ (AW I hg hm DF (callWith_type1 (thn (ha pos pins s σ H _ I h) λus s1 ⟨vs,H1,I1,r1,q1⟩=> ?_) hs rfl)))
 obtain⟨l,xs,e,hq,q⟩:=q1
 subst e
 cases r1 with
 |cons r rr=>
  cases rr
  cases r
  obtain⟨its,rv,pl,hz⟩:=I1.list hq
  refine call_reversed_list pl.isList ?_
  refine Calls.spliced_nil ?_
  have st:(s1.heap.push (revObj l ((its.toArray.size:Int) - 1))).IsRevIter s1.heap.objs.size l ((its.toArray.size:Int) - 1):=⟨_,get?_push_size _ rfl,rfl,rfl⟩
  have ltl:l<s1.heap.objs.size:=let⟨o,e,_⟩:=pl.isList;lt_size e
  have hlen:=rv.length
  refine GW (I1.ok.hd hc) st (pl.isList.at λo e=>gZ _ e) (ne_of_lt ltl) (λh' tk acc c hk hS hacc=> ?_) (by rw[size_toArray,<-hlen];exact hz)
  rw[US hacc]at hS
  have ns:(s1.heap.push (revObj l ((its.toArray.size:Int) - 1))).objs.size=s1.heap.objs.size+1:=size_push ..
  rw[ns]at hS⊢
  have kp:∀b o,s1.heap.get? b=some o->h'.get? b=some o:=λb o e=>hk b o (ne_of_lt (lt_size e)) (gZ _ e)
  exact⟨.ref (s1.heap.objs.size+1),_,I1.laid (t':=tk) kp (le_succ _) (show ObjOk X.prog X.w _ h' _ (.lst xs.reverse)from⟨by rw[length_reverse];exact hz,its.reverse,c,rv.rev,hS⟩),rfl,q _ (I1.hok.fresh (le_succ _))⟩
variable{elts:List Expr}{kt:Nat}{pt:Pos}
theorem WN(hu:X.A.units<cLine):OpR X (compareOp .NotEq) (λx y H Q=>∃a b xs ys,x=.ref a/\y=.ref b/\SqL X.K H a xs/\SqL X.K H b ys/\xs.length≠ys.length/\Q (.bl true) H):=by
 intro pins s σ H x y v u Q I rx ry h
 obtain⟨a,b,xs,ys,rfl,rfl,ha,hb,hp,q⟩:=h
 cases rx;cases ry
 obtain⟨its,r,pl,_⟩:=I.list ha
 obtain⟨its2,r2,pl2,_⟩:=I.list hb
 have hl:its.length≠its2.length:=by rw[<-r.length,<-r2.length];exact hp
 exact SeqAt.RcNeAt.lists_lengths pl.isList pl2.isList (by simpa using hl) hu X.prog X.w X.xe _ ⟨.bl true,H,I,rfl,q⟩
theorem VL(hu:X.A.units<cLine)(hK:X.K=K:=by rfl):OpR X (compareOp .NotEq) (λx y H Q=>rEqL K false x y H Q\/∃a b xs ys,x=.ref a/\y=.ref b/\SqL K H a xs/\SqL K H b ys/\xs.length≠ys.length/\Q (.bl true) H):=by
 subst hK;exact(XT hu).or (WN hu)
theorem EE:OpR X (binaryOp .Mult) (rI IntMulOk λi j=> .int (i*j)):=opI λ_ _ _ _ _ _ _ hc q=>mul_int q hc
theorem D1:OpR X (binaryOp .FloorDiv) (rI (λ_ j=>j≠0/\j.natAbs.log2<9000) λi j=> .int (i.fdiv j)):=opI λ_ _ _ _ _ _ _ hc q=>floordiv_int hc.1 q (.inl (PyProof.noPylong_of_log2 hc.2))
end
end L2
namespace Att
open PySem PySem.W PySem.Calls PyProof.Rows
end Att
namespace L2
open PySem PySem.Spec PyProof.Rows
section
variable{X:Cx}{K:FZ}
noncomputable def WV(K:FZ):R2:=λx y H Q=>∃a b xs ys,x=.ref a/\y=.ref b/\SqL K H a xs/\SqL K H b ys/\xs.length≠ys.length/\Q (.bl false) H
theorem YI(hu:X.A.units<cLine):OpR X (compareOp .Eq) (WV X.K):=by
 intro pins s σ H x y v u Q I rx ry h
 obtain⟨a,b,xs,ys,rfl,rfl,ha,hb,hp,q⟩:=h
 cases rx;cases ry
 obtain⟨its,r,pl,_⟩:=I.list ha
 obtain⟨its2,r2,pl2,_⟩:=I.list hb
 have hl:its.length≠its2.length:=by rw[<-r.length,<-r2.length];exact hp
 exact SeqAt.eq_list_lengthsAt pl.isList pl2.isList (by simpa using hl) hu ⟨.bl false,H,I,rfl,q⟩
theorem aNZ(hu:X.A.units<cLine)(hK:X.K=K:=by rfl):OpR X (compareOp .Eq) (λx y H Q=>rEqL K true x y H Q\/WV K x y H Q):=by
 subst hK;exact(XZ hu).or (YI hu)
noncomputable def CI(K:FZ):R2:=λx y H Q=>∃a b ys,x=.ref a/\y=.ref b/\SqT K H a []/\SqT K H b ys/\Q (.ref b) H
theorem NK:OpR X (binaryOp .Add) (CI X.K):=by
 intro pins s σ H x y v u Q I rx ry h
 obtain⟨a,b,ys,rfl,rfl,ha,hb,q⟩:=h
 cases rx
 cases ry
 obtain⟨its,r1,p1,_⟩:=I.tuple ha
 obtain⟨its2,r2,p2,hz⟩:=I.tuple hb
 have e0:its=[]:=r1.nil_iff.mpr rfl
 subst e0
 obtain⟨⟨cls,dd,data,sl⟩,ho,hc,n,hd⟩:=id p1
 obtain⟨⟨cls2,dd2,data2,sl2⟩,ho2,hc2,n2,hd2⟩:=id p2
 simp only at hc hd hc2 hd2
 subst hc hd hc2 hd2
 exact concat_meets ⟨_,ho,rfl⟩ ⟨_,ho2,rfl⟩ noFill_tuple_add seq_tuple_add PySem.F.slot_tuple_add PySem.F.entry_tuple_add (PySem.F.args_tuple_add_2 _ _)
  (tuple_addW0 a b _ _ n n2 dd dd2 sl sl2 (by simp)) ⟨ho,ho2,⟨.ref b,H,I,rfl,q⟩⟩
theorem SR(hK:X.K=K:=by rfl):OpR X (binaryOp .Add) (λx y H Q=>rI0 (λi j=> .int (i+j)) x y H Q\/IB K x y H Q\/CI K x y H Q):=by
 subst hK;exact op_add.or (op_catT.or NK)
end
end L2
namespace PySem
open AutoSeq1 (wpAny_loadPart')
section
variable{prog:Program}{w:World}{A:Around}{E:Value->Shared->Prop}{s:Shared}
end
end PySem
namespace PySem
section
variable{prog:Program}{w:World}{A:Around}{E:Value->Shared->Prop}{s:Shared}
end
end PySem
namespace L2
open PySem PySem.Spec PyProof.Rows
section
variable{X:Cx}{K:FZ}{elts:List Expr}{kt:Nat}{pt:Pos}
end
end L2
namespace PySem
open Sem(wp)
namespace ZT
noncomputable def IsIt(t:Bool)(h:Heap)(i l:Addr)(k:Nat):Prop:=if t then h.IsTupleIter i l k else h.IsListIter i l k
noncomputable def IsSq(t:Bool)(h:Heap)(l:Addr)(xs:Array Value):Prop:=if t then h.IsTuple l xs else h.IsList l xs
theorem IsIt.extBut{t:Bool}{h h':Heap}{i b l:Addr}{k:Nat}(x:IsIt t h i l k)(hs:Heap.ExtBut b h h')(hb:i≠b):IsIt t h' i l k:=by
 cases t
 ·exact Heap.IsListIter.extBut (show h.IsListIter i l k from x) hs hb
 ·exact Heap.IsTupleIter.extBut (show h.IsTupleIter i l k from x) hs hb
theorem IsIt.at{t:Bool}{h h':Heap}{i l:Addr}{k:Nat}(x:IsIt t h i l k)(e:∀o,h.get? i=some o->h'.get? i=some o):IsIt t h' i l k:=by
 cases t
 ·obtain⟨o,ho,r⟩:=(show h.IsListIter i l k from x)
  exact⟨o,e o ho,r⟩
 ·obtain⟨o,ho,r⟩:=(show h.IsTupleIter i l k from x)
  exact⟨o,e o ho,r⟩
theorem IsIt.live{t:Bool}{h:Heap}{i l:Addr}{k:Nat}(x:IsIt t h i l k):∃o,h.get? i=some o:=by
 cases t
 ·obtain⟨o,ho,r⟩:=(show h.IsListIter i l k from x)
  exact⟨o,ho⟩
 ·obtain⟨o,ho,r⟩:=(show h.IsTupleIter i l k from x)
  exact⟨o,ho⟩
theorem IsSq.at{t:Bool}{h h':Heap}{l:Addr}{xs:Array Value}(x:IsSq t h l xs)(e:∀o,h.get? l=some o->h'.get? l=some o):IsSq t h' l xs:=by
 cases t
 ·obtain⟨o,ho,r⟩:=(show h.IsList l xs from x)
  exact⟨o,e o ho,r⟩
 ·obtain⟨o,ho,r⟩:=(show h.IsTuple l xs from x)
  exact⟨o,e o ho,r⟩
theorem IsSq.extBut{t:Bool}{h h':Heap}{l b:Addr}{xs:Array Value}(x:IsSq t h l xs)(hs:Heap.ExtBut b h h')(hb:l≠b):IsSq t h' l xs:=x.at λo e=>hs l o hb e
section
variable{prog:Program}{w:World}{A:Around}{E:Value->Shared->Prop}{s:Shared}
end
end ZT
end PySem
namespace PySem
open Sem(wp)
namespace ZT
section
variable{prog:Program}{w:World}{A:Around}{E:Value->Shared->Prop}{s:Shared}
end
end ZT
end PySem
namespace PySem
open Sem(wp)
open PyProof.Rows
namespace ZT
section
variable{prog:Program}{w:World}{A:Around}{E:Value->Shared->Prop}{s:Shared}
variable{R:Result->Shared->Prop}
end
end ZT
end PySem
namespace PySem
open Sem(wp)
open PyProof.Rows
namespace F
end F
namespace ZT
section
variable{prog:Program}{w:World}{A:Around}{E:Value->Shared->Prop}{s:Shared}
end
end ZT
end PySem
namespace PySem
open Sem(wp)
open PyProof.Rows
namespace ZT
section
variable{prog:Program}{w:World}{A:Around}{E:Value->Shared->Prop}{s:Shared}
end
end ZT
end PySem
namespace L2
open PySem PySem.Spec PyProof.Rows
section
variable{X:Cx}{K:FZ}{pins:List (Addr×Obj)}{σ:St}{H H':Hp}{s:Shared}{h':Heap}
variable{A:Around}{E:Value->Shared->Prop}{Q:Value->Shared->Prop}{b:Bool}
theorem QS{x c d:V}{u t u1 u2:Value}{p:Addr}(I:Inv X pins σ H s)(rx:RelV x u)(hp:SqT X.K H p [c,d])(r1:∀v,RelV c v->v=u1)(r2:∀v,RelV d v->v=u2)(ty:TyOf X.K H x t)(e:kitAny X.K t [u1,u2]=some b)(hx:u≠ .builtin "__main__.__loader__#opaque")(h:∀tk,Q (.bool b) {s with toks:=tk}):
  wpAny (model X.prog X.w) A (call (.builtin "isinstance") [u,.ref p]) Q E s:=by
 obtain⟨its,r,⟨⟨cl,dd,da,sl⟩,hg,hc,n,hd⟩,_⟩:=I.tuple hp
 simp only at hc hd
 subst hc hd
 obtain⟨w1,w2,rfl,q1,q2⟩:=TJ r
 cases r1 _ q1
 cases r2 _ q2
 cases ty with
 |non=>cases(show u=Value.none from rx);exact kia_tup PySem.W.kitx_none I.kIn True.intro hg e hx h
 |bl y=>cases(show u=Value.bool y from rx);exact kia_tup PySem.W.kitx_bool I.kIn True.intro hg e hx h
 |int i=>obtain⟨t,q⟩:=(show∃t,u=Value.int i t from rx);cases q;exact kia_tup PySem.W.kitx_int I.kIn True.intro hg e hx h
 |str y=>obtain⟨t,q⟩:=(show∃t,u=Value.str y t from rx);cases q;exact kia_tup PySem.W.kitx_str I.kIn True.intro hg e hx h
 |flt y=>obtain⟨t,q⟩:=(show∃t,u=Value.float y t from rx);cases q;exact kia_tup PySem.W.kitx_float I.kIn True.intro hg e hx h
 | @lst a xs ea=>
  cases(show u=Value.ref a from rx)
  obtain⟨_,_,n,_,h1⟩:=(show ObjOk X.prog X.w H s.heap a (.lst xs)from I.hok a _ ea)
  exact kia_tup kitx_list I.kIn ⟨_,h1,rfl⟩ hg e hx h
 | @frz a ob xs ea=>
  cases(show u=Value.ref a from rx)
  obtain⟨_,_,_,n,_,h1⟩:=(show ObjOk X.prog X.w H s.heap a (.frz ob (.lst xs))from I.hok a _ ea)
  exact kia_tup kitx_list I.kIn ⟨_,h1,rfl⟩ hg e hx h
 | @tup a xs ea=>
  cases(show u=Value.ref a from rx)
  obtain⟨_,_,_,p⟩:=(show ObjOk X.prog X.w H s.heap a (.tup xs)from I.hok a _ ea)
  obtain⟨o,h1,h2,_⟩:=p
  exact kia_tup PySem.W.kitx_tuple I.kIn ⟨o,h1,h2⟩ hg e hx h
 | @dK a kvs ea=>
  cases(show u=Value.ref a from rx)
  obtain⟨_,_,vs,_,p⟩:=(show ObjOk X.prog X.w H s.heap a (.dK kvs)from I.hok a _ ea)
  obtain⟨o,es,ep,h1,h2,_⟩:=p
  exact kia_tup kitx_dict I.kIn ⟨o,h1,h2.1⟩ hg e hx h
 | @dT a kvs ea=>
  cases(show u=Value.ref a from rx)
  obtain⟨_,_,xs,_,o,es,ep,h1,h2,_⟩:=(show ObjOk X.prog X.w H s.heap a (.dT kvs)from I.hok a _ ea)
  exact kia_tup kitx_dict I.kIn ⟨o,h1,h2.1⟩ hg e hx h
 | @ins a C dx fs ea cl ha hn htk hm=>
  cases(show u=Value.ref a from rx)
  obtain⟨mA,O,_⟩:=BL I.hok ea
  obtain⟨od,J,_⟩:=O.look
  exact kia_tup (PySem.W.kitx_own (cl.get _) cl.hd ha hn htk hm) I.kIn J hg e hx h
theorem QT{x:V}{u t:Value}(rx:RelV x u)(ty:TyOf K H x t):u≠ .builtin "__main__.__loader__#opaque":=by
 cases ty with
 |non=>cases(show u=Value.none from rx);exact λz=>nomatch z
 |bl y=>cases(show u=Value.bool y from rx);exact λz=>nomatch z
 |int i=>obtain⟨t,q⟩:=(show∃t,u=Value.int i t from rx);cases q;exact λz=>nomatch z
 |str y=>obtain⟨t,q⟩:=(show∃t,u=Value.str y t from rx);cases q;exact λz=>nomatch z
 |flt y=>obtain⟨t,q⟩:=(show∃t,u=Value.float y t from rx);cases q;exact λz=>nomatch z
 |lst|frz|tup|dK|dT|ins=>cases rx;exact λz=>nomatch z
theorem UQ:CallR X (.builtin "isinstance") (λxs H Q=>∃x c d t b p,xs=[x,.ref p]/\SqT X.K H p [.ty c,.ty d]/\TyOf X.K H x t/\kitAny X.K t [.type c,.type d]=some b/\Q (.bl b) H):=by
 intro pins s σ H xs us Q I r h
 obtain⟨x,c,d,t,b,p,rfl,hp,ty,hk,q⟩:=h
 obtain⟨u,v,rfl,ru,rv⟩:=TJ r
 cases rv
 exact QS I ru hp (λv h=>by cases h;rfl) (λv h=>by cases h;rfl) ty hk (QT ru ty) λtk=>⟨.bl b,H,I.tok _,rfl,q⟩
theorem bMZ(hK:X.K=K:=by rfl):CallR X (.builtin "isinstance") (λxs H Q=>∃x c d t b p,xs=[x,.ref p]/\SqT K H p [.ty c,.ty d]/\TyOf K H x t/\kitAny K t [.type c,.type d]=some b/\Q (.bl b) H):=by subst hK;exact UQ
theorem Q3{xs:List V}{us:List Value}(r:Vals xs us){j:Nat}(h1:j<us.toArray.size):∃x,xs[j]? =some x/\RelV x us.toArray[j]:=by
 have hj:j<xs.length:=by rw[r.length];simpa using h1
 obtain⟨u,hu,ru⟩:=r.get (i:=j) (x:=xs[j]) (by simp[hj])
 have e1:us.toArray[j]=u:=by
  have:us[j]? =some us.toArray[j]:=by simp
  rw[hu]at this;exact(Option.some.inj this).symm
 exact⟨xs[j],by simp[hj],by rw[e1];exact ru⟩
theorem aPZ(I:Inv X pins σ H s){A:Around}{a b:Addr}{xs ys:List V}(hu:A.units<cLine)(ha:SqT X.K H a xs)(hb:SqT X.K H b ys)(hl:xs.length=ys.length)
  (he:∀(j:Nat) x y u v,xs[j]? =some x->ys[j]? =some y->RelV x u->RelV y v->SeqAt.EqAt A.in1 s u v true):SeqAt.RcAt A s (.ref a) (.ref b) true:=by
 obtain⟨its,r,pl,_⟩:=I.tuple ha
 obtain⟨its2,r2,pl2,_⟩:=I.tuple hb
 have hl2:its.length=its2.length:=by rw[<-r.length,<-r2.length];exact hl
 have h:=SeqAt.RcAt.tuples (A:=A) (s:=s) (e:=λ_=>true) pl pl2 hu (λj h1 h2=>by
  obtain⟨x,hx,rx⟩:=Q3 r h1
  obtain⟨y,hy,ry⟩:=Q3 r2 h2
  exact he j x y _ _ hx hy rx ry)
 have e:((List.range (min its.toArray.size its2.toArray.size)).all (λ_=>true)&&its.toArray.size==its2.toArray.size)=true:=by simp[hl2]
 rw[e]at h
 exact h
end
end L2
namespace HT
open PySem PyProof.Rows
section
variable{prog:Program}{w:World}{A:Around}{E:Value->Shared->Prop}{s:Shared}
theorem getItem_tuple_whole{t sl:Addr}{items:Array Value}{vl vu:Value}{lo hi:Option Int}{Q:Value->Shared->Prop}(ht:IsTup s.heap t items)(hs:s.heap.IsSliceOf sl vl vu .none)(pl:IsPart vl lo)(pu:IsPart vu hi)
  (hw:sIx items.size 0 lo=0/\sIx items.size items.size hi=items.size)
  (h:Q (.ref t) s):wpAny (model prog w) A (getItem (.ref t) (.ref sl)) Q E s:=by
 obtain⟨os,hos,hcs,hds⟩:=id hs
 have hTs:s.TypeIs (.ref sl) "slice":=⟨os,hos,hcs⟩
 unfold getItem
 try with_reducible refine wpAny_holding ?_
 first|refine bZ (pZ ?_)|skip
 refine bZ (wpAny_sequenceKey ht.typeIs (by decide) ?_)
 refine bZ (wpAny_callSpecial?_slot (name:=Str.ofString "__getitem__") ht.typeIs PyProof.Rows.slot_tuple_getitem
  (wpAny_call_entry PyProof.Rows.slot_tuple_getitem ht.typeIs entry_tuple_getitem ?_ (args_tuple_getitem _ _)))
 show wpAny _ _ (Builtin.Tuple.tupleItemsOf (.ref t)>>=_) _ _ s
 refine bZ (tupleItemsOf_ ht ?_)
 refine bZ (wpAny_typeOf hTs ?_)
 rw[if_pos (by decide)]
 refine bZ (U5 hs pl pu ?_)
 have hyes:(((sIx items.size 0 lo:Nat):Int)==0&&(1:Int)==1&&(sIx items.size items.size hi - sIx items.size 0 lo)==items.size)=true:=by
  rw[hw.1,hw.2];simp
 show wpAny _ _ (if(((sIx items.size 0 lo:Nat):Int)==0&&(1:Int)==1&&(sIx items.size items.size hi - sIx items.size 0 lo)==items.size)=true then _ else _) _ _ s
 rw[if_pos hyes]
 unfold Builtin.Tuple.tupleIsExact
 refine bZ (bZ (wpAny_typeOf ht.typeIs ?_))
 repeat (first|refine pZ ?_|refine bZ ?_|refine wpAny_rule ?_|rw[if_pos (by decide)])
 exact⟨_,rfl,pZ h⟩
end
end HT
namespace L2
open PySem PySem.Spec PyProof.Rows
section
variable{X:Cx}{K:FZ}
noncomputable def cFZ(K:FZ):V->Option Int->Option Int->Hp->VK->Prop:=λx lo hi H Q=>∃a xs,x=.ref a/\SqT K H a xs/\(HT.sIx xs.length 0 lo=0/\HT.sIx xs.length xs.length hi=xs.length)/\Q (.ref a) H
theorem XL:SlR X (cFZ X.K):=by
 intro pins s σ H x v vl vu lo hi sl Q I rx hs pl pu h
 obtain⟨a,xs,rfl,hx,hw,q⟩:=h
 cases rx
 obtain⟨its,r,ht,hz⟩:=I.tuple hx
 have hlen:its.toArray.size=xs.length:=by rw[size_toArray];exact r.length.symm
 refine⟨"tuple",_,PyProof.Rows.slot_tuple_getitem.lookup,ht.typeIs, ?_⟩
 exact HT.getItem_tuple_whole ht hs pl pu (by rw[hlen];exact hw) ⟨.ref a,H,I,rfl,q⟩
theorem W7(hK:X.K=K:=by rfl):SlR X (λx lo hi H Q=>(rSlL K x lo hi H Q\/rSlT K x lo hi H Q)\/cFZ K x lo hi H Q):=by subst hK;exact sl_any.or XL
end
end L2
namespace TM
open PySem PyProof.Rows
theorem noFill_tuple_mul:fillsNumberSlot (.type "tuple") "mul"=pure false:=
 PySem.fillsNumberSlot_seq (id:="tuple.__mul__") (r:=some (.builtin "tuple.__rmul__")) F.slot_tuple_mul.lookup (by decide +kernel) F.slot_tuple_rmul.lookup (by decide +kernel)
theorem repeat_tuple:seqRepeat? (.type "tuple")=pure (some (.builtin "tuple.__mul__")):=by
 unfold seqRepeat?
 rw[PySem.seqSlot_of (T:="tuple") (name:="__mul__") (id:="tuple.__mul__") F.slot_tuple_mul.lookup (by decide +kernel),PySem.seqSlot_of (T:="tuple") (name:="__rmul__") (id:="tuple.__rmul__") F.slot_tuple_rmul.lookup (by decide +kernel)]
 rfl
theorem int___rmul___int_tuple(a:Int)(t:Tok)(l:Addr)(dd:Option Addr)(items:Array Value)(n:Nat)(sl:Array (Option Value)):
  Meets (Builtin.«int.__rmul__» ⟨[.int a t,.ref l],[]⟩) (λ_ R s=>s.heap.get? l=some {cls:=.type "tuple",dict:=dd,data:=.seq items n,slots:=sl}/\R (.ok (.ret Value.notImplemented)) s):=
 .of_wp λprog w A R s h=>by obtain⟨hp,g,d,tk,os⟩:=s;obtain⟨hl,h⟩:=h;wp_walk;exact⟨_,rfl,h⟩
section
variable{prog:Program}{w:World}{A:Around}{E:Value->Shared->Prop}{s:Shared}
theorem XN(x:Value)(k:Nat):List.foldl (λx1 x2=>x1++x2) #[] (List.replicate k #[x])=(List.replicate k x).toArray:=by
 have:=L2.foldl_rep [x] k []
 rw[List.nil_append,List.flatten_replicate_singleton]at this
 exact this
theorem tuple_mul1{l:Addr}{x:Value}{k:Int}{t:Tok}{Q:Value->Shared->Prop}(ht:IsTup s.heap l #[x])(h0:0<=k)(h1:k<=1000)(hs:k=1->Q (.ref l) s)
  (hn:k≠1->Q (.ref s.heap.objs.size) {s with heap:=s.heap.push {cls:=.type "tuple",data:=.seq (List.replicate k.toNat x).toArray}}):wpAny (model prog w) A (call (.builtin "tuple.__mul__") [.ref l,.int k t]) Q E s:=by
 refine wpAny_call_entry F.slot_tuple_mul ht.typeIs F.entry_tuple_mul ?_ (F.args_tuple_mul_2 _ _)
 show wpAny _ _ (asIndex (.int k t)>>=_) _ _ s
 refine bZ (m:=asIndex _) (pZ (a:=k) ?_)
 have e1:¬((decide (k< -2^63)||decide (k≥2^63))=true):=by simp;omega
 rw[if_neg e1]
 refine bZ (tupleItemsOf_ ht ?_)
 by_cases e:k=1
 ·subst e
  rw[if_pos (by simp)]
  unfold Builtin.Tuple.tupleIsExact
  refine bZ (bZ (wpAny_typeOf ht.typeIs ?_))
  repeat (first|refine pZ ?_|refine bZ ?_|refine wpAny_rule ?_|rw[if_pos (by decide)])
  exact⟨_,rfl,hs rfl⟩
 ·have e2:¬(((#[x]:Array Value).isEmpty||k==1)=true):=by simp[e]
  rw[if_neg e2]
  have hz:sizeOk (.seq (List.replicate k.toNat x).toArray):=by
   show(List.replicate k.toNat x).toArray.size<=sizeLine
   rw[size_toArray,length_replicate]
   have:(1000:Nat)<=sizeLine:=by decide
   omega
  by_cases e0:k=0
  ·subst e0
   rw[if_pos (by simp)]
   exact bZ (m:=Builtin.Tuple.tupleExact _) (wpAny_newObj_type (pZ ⟨_,rfl,hn e⟩) hz)
  ·rw[if_neg (by simp;omega)]
   have e5:¬(((#[x]:Array Value).size:Int)*k>(2^63 - 1)/8):=by simp;omega
   show wpAny _ _ (if((#[x]:Array Value).size:Int)*k>(2^63 - 1)/8 then _ else _) _ _ s
   rw[if_neg e5]
   have e6:¬(Builtin.Tuple.tupleTooMany (((#[x]:Array Value).size:Int)*k)=true):=by
    unfold Builtin.Tuple.tupleTooMany
    have:(1000:Nat)<=sizeLine:=by decide
    simp
    omega
   show wpAny _ _ (if Builtin.Tuple.tupleTooMany (((#[x]:Array Value).size:Int)*k)=true then _ else _) _ _ s
   rw[if_neg e6,XN]
   exact bZ (m:=Builtin.Tuple.tupleExact _) (wpAny_newObj_type (pZ ⟨_,rfl,hn e⟩) hz)
end
end TM
namespace L2
open PySem PySem.Spec PyProof.Rows
section
variable{X:Cx}{K:FZ}
noncomputable def bfZ(K:FZ):R2:=λx y H Q=>∃l k z,x=.ref l/\y=.int k/\SqT K H l [z]/\0<=k/\k<=1000/\(k=1->Q (.ref l) H)/\(k≠1->∀p,H p=none->Q (.ref p) (upd H p (.tup (List.replicate k.toNat z))))
theorem MU{z:V}{u:Value}(r:RelV z u):∀k:Nat,Vals (List.replicate k z) (List.replicate k u)
 |0=> .nil
 |k+1=> .cons r (MU r k)
theorem aiZ:OpR X (binaryOp .Mult) (bfZ X.K):=by
 intro pins s σ H x y v u Q I rx ry h
 obtain⟨l,k,z,rfl,rfl,hl,h0,h1,q1,q2⟩:=h
 cases rx
 obtain⟨t,rfl⟩:=ry
 obtain⟨its,r,pl,_⟩:=I.tuple hl
 obtain⟨u,rfl,ru⟩:=BA r
 obtain⟨⟨cls,dd,data,sl⟩,ho,hc,n,hd⟩:=id pl
 simp only at hc hd
 subst hc hd
 refine wpAny_binaryOp_repeat_ref (T:="tuple") (U:="int") (by decide) ⟨_,ho,rfl⟩ (λs'=>typeIs_int s' k t) TM.noFill_tuple_mul F.fills_int_mul F.slot_int_rmul TM.repeat_tuple F.slot_int_index.lookup
  (call_meets F.slot_int_rmul (typeIs_int s k t) F.entry_int_rmul (F.args_int_rmul_2 _ _) (TM.int___rmul___int_tuple k t l dd _ n sl)
   ⟨ho,rfl,⟨_,ho,rfl⟩,TM.tuple_mul1 pl h0 h1 (λe=>⟨.ref l,H,I,rfl,q1 e⟩) λe=> ?_⟩)
 refine⟨.ref s.heap.objs.size,_,I.laid (t':=s.toks) (o:=.tup (List.replicate k.toNat z)) (λb ob q=>gZ _ q) (le_refl _) ?_,rfl,q2 e _ (I.hok.fresh (le_refl _))⟩
 refine⟨?_,_,MU ru k.toNat,IsTup.new _ _⟩
 rw[length_replicate]
 have:(1000:Nat)<=sizeLine:=by decide
 omega
theorem blZ(hK:X.K=K:=by rfl):OpR X (binaryOp .Mult) (λx y H Q=>rI CMul (λi j=> .int (i*j)) x y H Q\/bfZ K x y H Q):=by subst hK;exact op_mul.or aiZ
theorem M2(hK:X.K=K:=by rfl):OpR X (binaryOp .Add) (λx y H Q=>rI0 (λi j=> .int (i+j)) x y H Q\/rCat x y H Q\/IB K x y H Q\/CI K x y H Q):=by
 subst hK;exact op_add.or (op_cat.or (op_catT.or NK))
end
end L2
namespace TM
open PySem PyProof.Rows PySem.SeqAt
end TM
namespace L2
open PySem PySem.Spec PyProof.Rows
section
variable{X:Cx}{K:FZ}
variable{e:Expr}{es tes:List Expr}{t tt:TA}{name:Str}{apos cpos tpos:Pos}{id:String}{r:V->List V->Hp->VK->Prop}
end
structure LamScope(ps fs:List Str)(sc:Scope):Prop where
 kind:sc.kind=.function
 co:sc.isCoroutine=false
 gen:sc.isGenerator=false
 nd:(ps++fs).Nodup
 par:∀x∈ps,sc.names.lookup x=some .local
 nocell:∀y∈sc.names,y.2≠ .cell
 free:∀x,sc.names.lookup x=some .free->x∈fs
 fre:∀x∈fs,sc.names.lookup x=some .free
structure Caught (base:Heap) (cl:List (Str×Addr)) (fs:List Str) (cvs:List V):Prop where
 len:cvs.length=fs.length
 inj:∀x y c,cl.lookup x=some c->cl.lookup y=some c->x=y
 only:∀x c,cl.lookup x=some c->x∈fs
 at_:∀(i:Nat) (x:Str),fs[i]? =some x->∃c u v,cl.lookup x=some c/\base.IsCell c (some u)/\cvs[i]? =some v/\RelV v u
noncomputable def TN(CX:CXT)(P:Program)(w:World)(K:FZ)(mg:Str->Option Value)(base:Heap)(N:List Str)(qual:Str)(scope:Scope)(f:Addr)(cd:Value)(cl:List (Str×Addr))(A:Around)(outer:List Env)(s:Shared)(H:Hp)(E:XK):Cx where
 prog:=P
 w:=w
 K:=K
 mg:=mg
 base:=base
 A:=A.deeper (envX qual scope s.heap.objs.size f cd cl)
 N:=N
 s₀:=s
 H₀:=H
 env:=envX qual scope s.heap.objs.size f cd cl
 outer:=outer
 stack:=envX qual scope s.heap.objs.size f cd cl::outer
 ex:=[]
 calm:=true
 fn:=λ_=>false
 pn:=[]
 xe:=λe s'=>wpAny (model P w) (A.deeper (envX qual scope s.heap.objs.size f cd cl)) (leaving (envX qual scope s.heap.objs.size f cd cl) e) (λ_ s''=>CX outer H s E e s'') (λe' s''=>CX outer H s E e' s'') s'
theorem XB{ps:List Str}{us:List Value}{i:Nat}{x:Str}{u:Value}(nd:ps.Nodup)(hl:us.length=ps.length)(h1:ps[i]? =some x)(h2:us[i]? =some u):(ps.zip us).reverse.lookup x=some u:=by
 have aux:∀(l:List (Str×Value)),(l.map (·.1)).Nodup->(x,u)∈l->l.lookup x=some u:=by
  intro l
  induction l with
  |nil=>intro _ h;exact absurd h (by simp)
  |cons p l ih=>
   obtain⟨y,z⟩:=p
   intro n h
   rw[map_cons,nodup_cons]at n
   rcases cZ h with e|h
   ·cases e;simp
   ·have ne:x≠y:=λe=>n.1 (e▸List.mem_map_of_mem (f:=(·.1)) h)
    rw[lookup_cons,show(x==y)=false from beq_eq_false_iff_ne.mpr ne]
    exact ih n.2 h
 refine aux _ ?_ ?_
 ·rw[List.map_reverse,List.map_fst_zip (by omega)]
  exact List.pairwise_reverse.mpr (List.Pairwise.imp (λh=>Ne.symm h) nd)
 ·rw[List.mem_reverse]
  refine mem_of_getElem? (i:=i) ?_
  rw[List.getElem?_zip_eq_some]
  exact⟨h1,h2⟩
theorem VP{CX:CXT}{P:Program}{w:World}{K:FZ}{mg:Str->Option Value}{base:Heap}{ps fs:List Str}{cvs:List V}{qual:Str}{scope:Scope}{f:Addr}{cd:Value}{cl:List (Str×Addr)}{A:Around}{outer:List Env}{s:Shared}{h1:Heap}{tk:Nat}{H:Hp}{E:XK}{us:List Value}{vs:List V}
  (S:LamScope ps fs scope)(C:Caught base cl fs cvs)(hd:A.handled=none)(e0:Env0 P w K mg base A outer s H)(hl:vs.length=ps.length)(r:Vals vs us)
  (hns:h1.Ns s.heap.objs.size (λx=>(ps.zip us).reverse.lookup x))(hk:∀b o,s.heap.get? b=some o->h1.get? b=some o):
  Inv (TN CX P w K mg base (ps++fs) qual scope f cd cl A outer s H E) [] ((vs++cvs).map some) H {s with heap:=h1,toks:=tk}:=by
 have noA:∀b:Addr,b∉(TN CX P w K mg base (ps++fs) qual scope f cd cl A outer s H E).ex:=λb z=>absurd (show b∈([]:List Addr)from z) (by simp)
 have ndP:ps.Nodup:=(List.nodup_append.mp S.nd).1
 have hul:us.length=ps.length:=by rw[<-r.length];exact hl
 have cb:∀x c,cl.lookup x=some c->∃u,base.IsCell c (some u):=λx c e=>by
  obtain⟨i,hi⟩:=getElem?_of_mem (C.only x c e)
  obtain⟨c',u,v,e1,e2,_⟩:=C.at_ i x hi
  rw[e]at e1;cases e1
  exact⟨u,e2⟩
 have bk:∀b o,base.get? b=some o->h1.get? b=some o:=λb o e=>hk b o (e0.bs b o e).1
 have ck:∀ {c:Addr} {u:Value},base.IsCell c (some u)->h1.IsCell c (some u):=λ{c u} ⟨o,ho,hd⟩=>⟨o,bk _ _ ho,hd⟩
 refine⟨⟨e0.mod,S.kind,rfl,rfl,le_refl _,C.inj,λy hy=> ?_,λy c h=>absurd (show(false:Bool)=true from h) (by simp),λ_=>hd,Around.frames_deeper e0.frames,.inr ⟨rfl,rfl⟩,λb z=>absurd z (noA b),e0.bs,e0.bsz,λb _ _=>noA b,λb z=>absurd z (noA b),e0.funs,e0.frf⟩,
  rfl,e0.bare,Un.kept hk,⟨_,hns,λi y v h1 h2 h3=> ?_⟩,λy c h=> ?_,e0.hok.fresh (le_refl _),λy c h=> ?_,λp hp=>absurd (show p∈([]:List (Addr×Obj))from hp) (by simp),e0.hok.kept hk, ?_⟩
 ·have hy:scope.names.lookup y=some .cell\/scope.names.lookup y=some .free:=hy
  rcases hy with hy|hy
  ·exact absurd rfl (S.nocell _ (PySem.mem_of_lookup hy))
  ·obtain⟨i,hi⟩:=getElem?_of_mem (S.free y hy)
   obtain⟨c,u,v,e1,_⟩:=C.at_ i y hi
   exact⟨c,e1⟩
 ·have h1:(ps++fs)[i]? =some y:=h1
  have h3:Vis scope y:=h3
  by_cases hi:i<ps.length
  ·rw[getElem?_append_left hi]at h1
   rw[getElem?_map,getElem?_append_left (by omega)]at h2
   have ha:vs[i]? =some v:=by
    cases e:vs[i]? with
    |none=>rw[e]at h2;cases h2
    |some a=>rw[e]at h2;cases h2;rfl
   obtain⟨u,hu,rv⟩:=r.get ha
   exact⟨u,rv,.inl ⟨S.par y (mem_of_getElem? h1),XB ndP hul h1 hu⟩⟩
  ·rw[getElem?_append_right (by omega)]at h1
   rw[getElem?_map,getElem?_append_right (by omega),hl]at h2
   obtain⟨c,u,v',e1,e2,e3,e4⟩:=C.at_ _ y h1
   rw[e3]at h2;cases h2
   exact⟨u,e4,.inr ⟨.inr (S.fre y (mem_of_getElem? h1)),c,e1,ck e2⟩⟩
 ·obtain⟨u,e⟩:=cb y c h
  exact⟨_,ck e⟩
 ·obtain⟨u,o,ho,_⟩:=cb y c h
  exact(e0.bs _ _ ho).2
 ·show((vs++cvs).map some).length=(ps++fs).length
  rw[length_map,length_append,length_append,hl,C.len]
theorem b5Z{CX:CXT}{P:Program}{w:World}{K:FZ}{mg:Str->Option Value}{base:Heap}{k:Nat}{f:Addr}{name qual:Str}{params:Arguments}{body:Expr}{scope:Scope}{cl:List (Str×Addr)}{pm cdv ct:Value}{o:Obj}
  {ps fs:List Str}{cvs:List V}{sp:Sp}(lk:base.get? f=some o)(hod:o.data=.func (PySem.W.kla_fn name qual params body scope cl pm cdv ct))(hcd:base.CodeRec cdv qual)(S:LamScope ps fs scope)(C:Caught base cl fs cvs)
  (len:∀vs H Q E,sp vs H Q E->vs.length=ps.length)
  (hbody:∀(A:Around) (outer:List Env) (s:Shared) (H:Hp) (vs:List V) (Q:VK) (E:XK),Room k (A.deeper (envX qual scope s.heap.objs.size f cdv cl))->sp vs H Q E->
   ∃t,PE (TN CX P w K mg base (ps++fs) qual scope f cdv cl A outer s H E) body t/\t ((vs++cvs).map some) H Q):
  FnOk P w K mg base CX (k+1) f (PySem.W.kla_fn name qual params body scope cl pm cdv ct) ps sp:=by
 refine⟨len,λA outer s H args us vs Q E hr e0 hb r hsp=> ?_⟩
 have hl:=len _ _ _ _ hsp
 have lim:s.heap.NoLimit:=e0.mod.nolimit.keeps λb o e=>(e0.bs b o e).1
 have hcd':s.heap.CodeRec cdv qual:=by
  obtain⟨c,oc,vs,t,e1,e2,e3⟩:=hcd
  exact⟨c,oc,vs,t,e1,(e0.bs _ _ e2).1,e3⟩
 refine PySem.W.kla_callFunE hr.depth (e0.bs _ _ lk).1 hod S.co S.gen rfl hcd' (hb _ _ _ _ ?_)
 refine wpAny_newFunctionEnv S.nocell (λx hx=>S.par x.1 (of_mem_zip hx).1) (λh₁ hns hsb=>⟨lim.fresh _ hsb, ?_⟩) S.kind
 have hk:∀b o,s.heap.get? b=some o->h₁.get? b=some o:=λb o e=>hsb.extBut b o (ne_of_lt (lt_size e)) (gZ _ e)
 show codeAny _ _ (.expr body (envX qual scope s.heap.objs.size f cdv cl)) _ _
 obtain⟨t,ht,hq⟩:=hbody A outer s H vs Q E (hr.deeper _) hsp
 have I:Inv (TN CX P w K mg base (ps++fs) qual scope f cdv cl A outer s H E) [] ((vs++cvs).map some) H {s with heap:=h₁,toks:=s.toks+(ps.zip us).length}:=VP S C hr.hd e0 hl r hns hk
 refine PySem.W.kla_codeExpr (wpAny_mono (ht [] _ _ H Q I hq) (λu s' hs=> ?_) λe s' hs=>hs)
 obtain⟨v,H',J,rv,q⟩:=hs
 exact⟨v,H',J.os,J.bare,J.base,J.hok,rv,q⟩
noncomputable def LamO(name qual:Str)(params:Arguments)(body:Expr)(scope:Scope)(clos:List (Str×Addr))(pm:Value)(c' f:Addr):HO:=
 .ext λh=>∃ctv,h.get? f=some (kla_obj name qual params body scope clos pm c' ctv)
noncomputable def CodeO(qual:Str)(c':Addr):HO:=.ext λh=>∃oc vs t,h.get? c'=some oc/\oc.data=.fields vs/\vs[1]? =some (.str qual t)
theorem LamO.ok{P:Program}{w:World}{H:Hp}{h:Heap}{name qual:Str}{params:Arguments}{body:Expr}{scope:Scope}{clos:List (Str×Addr)}{pm:Value}{c' f:Addr}{ctv:Value}
  (e:h.get? f=some (kla_obj name qual params body scope clos pm c' ctv)):ObjOk P w H h f (LamO name qual params body scope clos pm c' f):=
 ⟨⟨ctv,e⟩,⟨_,e⟩,λh1 h2 ⟨c,q⟩ k=>⟨c,k _ q⟩⟩
theorem CodeO.ok{P:Program}{w:World}{H:Hp}{h:Heap}{qual:Str}{c':Addr}{oc:Obj}{vs:Array Value}{t:Tok}(e:h.get? c'=some oc)(d:oc.data=.fields vs)(v:vs[1]? =some (.str qual t)):
  ObjOk P w H h c' (CodeO qual c'):=⟨⟨oc,vs,t,e,d,v⟩,⟨_,e⟩,λh1 h2 ⟨o,a,b,q,x,y⟩ k=>⟨o,a,b,k _ q,x,y⟩⟩
noncomputable def X9(H:Hp)(P:Addr)(pos:Pos)(qual:Str):Prop:=∃ps,H P=some (.tbl ps)/\TriplesOk ps.toList/\(codeAmong pos ps.toList=none\/∃c',codeAmong pos ps.toList=some (.ref c')/\H c'=some (CodeO qual c'))
noncomputable def TabHit(H:Hp)(P:Addr)(pos:Pos)(c':Addr):Prop:=∃ps,H P=some (.tbl ps)/\TriplesOk ps.toList/\codeAmong pos ps.toList=some (.ref c')
theorem TabHit.ok{H:Hp}{P:Addr}{pos:Pos}{c':Addr}{qual:Str}(h:TabHit H P pos c')(hc:H c'=some (CodeO qual c')):X9 H P pos qual:=let⟨ps,h1,h2,h3⟩:=h;⟨ps,h1,h2,.inr ⟨c',h3,hc⟩⟩
noncomputable def dWZ(P:Addr)(pos:Pos)(name qual:Str)(params:Arguments)(body:Expr)(scope:Scope)(clos:List (Str×Addr))(pm:Value):TE:=λ_ H Q=>X9 H P pos qual/\
 ∀f c' H',H f=none->H' f=some (LamO name qual params body scope clos pm c' f)->H' c'=some (CodeO qual c')->TabHit H' P pos c'->f≠c'->f≠P->c'≠P->(∀b,b≠f->b≠c'->b≠P->H' b=H b)->
  (∀b o,H b=some o->b≠P->H' b=some o)->Q (.ref f) H'
section
variable{X:Cx}{c P:Addr}{params:Arguments}{body:Expr}{scope:Scope}{pos:Pos}{clos:List (Str×Addr)}
theorem cfZ{pm:Value}(hpm:pm=(X.mg "__name__").getD .none)(hdef:defaultsOf params X.env=([],[]))(hcl:closureFor scope X.env=pure clos)(hcode:X.env.code=.ref c)(C:PySem.W.CodeHd X.base c P)(B:X.base.BuiltinsAt X.mg P):
  PE X (.Lambda params body scope pos) (dWZ P pos "<lambda>" (X.env.qual++ "<lambda>") params body scope clos pm):=by
 subst hpm
 intro pins s σ H Q I h
 obtain⟨⟨ps,hP,ht,hh⟩,h⟩:=h
 refine PySem.W.kla_eval hdef ?_
 have hPo:s.heap.get? P=some (PySem.W.tabObj ps):=I.hok P _ hP
 have hg:s.heap.Ns mainGlobals X.mg:=by
  obtain⟨o,es,ep,e,r⟩:=I.mod.glob
  exact⟨o,es,ep,I.bk _ _ e,r⟩
 have hgP:mainGlobals≠P:=λq=>by
  obtain⟨o,es,ep,e,r⟩:=I.mod.glob
  have:=(I.bs _ _ e).2
  rw[q,hP]at this;cases this
 have B':s.heap.BuiltinsAt X.mg P:=by
  obtain⟨bm,o,b1,b2,b3,b4,b5,r⟩:=B
  exact⟨bm,o,b1,b2,b3,b4,I.bk _ _ b5,r⟩
 have hLP:X.env.locals≠P:=λq=>by have:=I.free;rw[q,hP]at this;cases this
 rcases hh with hnf|⟨c',hf,hc'⟩
 ·refine PySem.W.kla_makeFunction (mg:=X.mg) hcl I.ok.glob hg hcode (C.keeps I.bk) hPo ht hnf hgP B' λc' ctv h' tk hx hge hlt hrec htb=> ?_
  obtain⟨c₂,oc,vs,t,e2,hoc,hd,hv⟩:=hrec
  cases e2
  have hPs:P<s.heap.objs.size:=lt_size hPo
  have sl:s.heap.objs.size<h'.objs.size:=lt_of_le_of_lt hge hlt
  have nfc:h'.objs.size≠c':=Nat.ne_of_gt hlt
  have nfP:h'.objs.size≠P:=Nat.ne_of_gt (Nat.lt_trans hPs sl)
  have ncP:c'≠P:=Nat.ne_of_gt (lt_of_lt_of_le hPs hge)
  have hfn:H h'.objs.size=none:=I.hok.fresh (le_of_lt sl)
  have hcn:H c'=none:=I.hok.fresh hge
  have kb:∀b o,b≠P->s.heap.get? b=some o->(h'.push (kla_obj "<lambda>" (X.env.qual++ "<lambda>") params body scope clos ((X.mg "__name__").getD .none) c' ctv)).get? b=some o:=λb o n e=>gZ _ (hx b o n e)
  generalize hH':upd (upd (upd H P (.tbl (ps++ #[rawInt pos.line,rawInt pos.col,.ref c']))) c' (CodeO (X.env.qual++ "<lambda>") c')) h'.objs.size (LamO "<lambda>" (X.env.qual++ "<lambda>") params body scope clos ((X.mg "__name__").getD .none) c' h'.objs.size)=H'
  have eF:H' h'.objs.size=some (LamO "<lambda>" (X.env.qual++ "<lambda>") params body scope clos ((X.mg "__name__").getD .none) c' h'.objs.size):=by rw[<-hH',A2]
  have eC:H' c'=some (CodeO (X.env.qual++ "<lambda>") c'):=by rw[<-hH',B0 (Ne.symm nfc),A2]
  have eP:H' P=some (.tbl (ps++ #[rawInt pos.line,rawInt pos.col,.ref c'])):=by rw[<-hH',B0 (Ne.symm nfP),B0 (Ne.symm ncP),A2]
  have eO:∀b,b≠h'.objs.size->b≠c'->b≠P->H' b=H b:=λb n1 n2 n3=>by rw[<-hH',B0 n1,B0 n2,B0 n3]
  have eK:∀b o,H b=some o->b≠P->H' b=some o:=λb o e n=>by
   rw[eO b (λz=>by rw[z,hfn]at e;cases e) (λz=>by rw[z,hcn]at e;cases e) n];exact e
  refine⟨.ref h'.objs.size,H', ?_,rfl,h _ c' H' hfn eF eC ⟨_,eP, ?_, ?_⟩ nfc nfP ncP eO eK⟩
  ·refine I.step (g':=s.gens) (d':=s.drawn) (ch:=[]) (λ_ z=>nomatch z) (λb o _ _ _ e n=>kb b o (λz=>by rw[z,hP]at n;cases n) e) (λb o _ _ _ e n=>⟨o.slots,kb b o (λz=>by rw[z,hP]at n;cases n) e⟩)
    (λb o _ e n=> ?_) (λb o _ e=> ?_) (λb xs e=>eK b _ e λz=>by rw[z,hP]at e;cases e) (λb o u e=>eK b _ e λz=>by rw[z,hP]at e;cases e) (λb qs e=> ?_) (λm hm=> ?_) ?_ I.bare
   ·have n1:=lt_size e
    rw[eO b (ne_of_lt (Nat.lt_trans n1 sl)) (ne_of_lt (lt_of_lt_of_le n1 hge)) λz=>by rw[z,hP]at n;cases n];exact n
   ·by_cases z:b=P
    ·rw[z];exact⟨_,gZ _ htb⟩
    ·exact⟨o,kb b o z e⟩
   ·by_cases z:b=P
    ·rw[z,hP]at e;cases e
     exact⟨_,by rw[z];exact eP⟩
    ·exact⟨#[],by rw[eK b _ e z];simp⟩
   ·obtain⟨o,es,ep,e,r⟩:=hm
    exact⟨o,es,ep,kb _ _ hLP e,r⟩
   ·intro b u e
    by_cases z1:b=h'.objs.size
    ·rw[z1,eF]at e;cases e
     rw[z1];exact LamO.ok (get?_push_size _ rfl)
    by_cases z2:b=c'
    ·rw[z2,eC]at e;cases e
     rw[z2];exact CodeO.ok (gZ _ hoc) hd hv
    by_cases z3:b=P
    ·rw[z3,eP]at e;cases e
     rw[z3];exact gZ _ htb
    rw[eO b z1 z2 z3]at e
    refine(I.hok b u e).stay (λd v hd' q=>kb d v (λz=> ?_) q) (λd q=>eK d _ q λz=>by rw[z,hP]at q;cases q) λd xs q=>eK d _ q λz=>by rw[z,hP]at q;cases q
    rcases hd' with q|q
    ·exact z3 (q.symm.trans z)
    ·rw[z,hP]at q;cases q
  ·have:(ps++ #[rawInt pos.line,rawInt pos.col,Value.ref c']).toList=ps.toList++ [rawInt pos.line,rawInt pos.col,.ref c']:=by simp
   rw[this];exact TriplesOk_snoc _ _ _ _ ht
  ·have:(ps++ #[rawInt pos.line,rawInt pos.col,Value.ref c']).toList=ps.toList++ [rawInt pos.line,rawInt pos.col,.ref c']:=by simp
   rw[this];exact codeAmong_snoc _ ht hnf
 ·refine PySem.W.kla_makeFunctionHit (mg:=X.mg) hcl I.ok.glob hg hcode (C.keeps I.bk) hPo ht hf B' λctv h' tk hk hsz=> ?_
  obtain⟨⟨oc,vs,t,hoc,hd,hv⟩,_⟩:=I.hok c' _ hc'
  have hPs:P<s.heap.objs.size:=lt_size hPo
  have hcs:c'<s.heap.objs.size:=lt_size hoc
  have nfc:h'.objs.size≠c':=Nat.ne_of_gt (lt_of_lt_of_le hcs hsz)
  have nfP:h'.objs.size≠P:=Nat.ne_of_gt (lt_of_lt_of_le hPs hsz)
  have ncP:c'≠P:=λe=>by rw[e,hP]at hc';cases hc'
  have hfn:H h'.objs.size=none:=I.hok.fresh hsz
  have kb:∀b o,s.heap.get? b=some o->(h'.push (kla_obj "<lambda>" (X.env.qual++ "<lambda>") params body scope clos ((X.mg "__name__").getD .none) c' ctv)).get? b=some o:=λb o e=>gZ _ (hk b o e)
  generalize hH':upd H h'.objs.size (LamO "<lambda>" (X.env.qual++ "<lambda>") params body scope clos ((X.mg "__name__").getD .none) c' h'.objs.size)=H'
  have eF:H' h'.objs.size=some (LamO "<lambda>" (X.env.qual++ "<lambda>") params body scope clos ((X.mg "__name__").getD .none) c' h'.objs.size):=by rw[<-hH',A2]
  have eO:∀b,b≠h'.objs.size->H' b=H b:=λb n1=>by rw[<-hH',B0 n1]
  have eK:∀b o,H b=some o->H' b=some o:=λb o e=>by
   rw[eO b (λz=>by rw[z,hfn]at e;cases e)];exact e
  refine⟨.ref h'.objs.size,H', ?_,rfl,h _ c' H' hfn eF (eK _ _ hc') ⟨_,eK _ _ hP,ht,hf⟩ nfc nfP ncP (λb n1 _ _=>eO b n1) λb o e _=>eK b o e⟩
  refine I.step (g':=s.gens) (d':=s.drawn) (ch:=[]) (λ_ z=>nomatch z) (λb o _ _ _ e _=>kb b o e) (λb o _ _ _ e _=>⟨o.slots,kb b o e⟩)
    (λb o _ e n=> ?_) (λb o _ e=>⟨o,kb b o e⟩) (λb xs e=>eK b _ e) (λb o u e=>eK b _ e) (λb qs e=>⟨#[],by rw[eK b _ e];simp⟩) (λm hm=> ?_) ?_ I.bare
  ·have n1:=lt_size e
   rw[eO b (ne_of_lt (lt_of_lt_of_le n1 hsz))];exact n
  ·obtain⟨o,es,ep,e,r⟩:=hm
   exact⟨o,es,ep,kb _ _ e,r⟩
  ·intro b u e
   by_cases z1:b=h'.objs.size
   ·rw[z1,eF]at e;cases e
    rw[z1];exact LamO.ok (get?_push_size _ rfl)
   rw[eO b z1]at e
   exact(I.hok b u e).stay (λd v _ q=>kb d v q) (λd q=>eK d _ q) λd xs q=>eK d _ q
end
noncomputable def del(H:Hp)(a:Addr):Hp:=λb=>if b=a then none else H b
theorem S5{H:Hp}{a:Addr}:del H a a=none:=by unfold del;rw[if_pos rfl]
theorem Y2{H:Hp}{a b:Addr}(h:b≠a):del H a b=H b:=by unfold del;rw[if_neg h]
theorem XJ{H:Hp}{a b:Addr}{o:HO}(h:del H a b=some o):b≠a/\H b=some o:=by
 by_cases e:b=a
 ·subst e;rw[S5]at h;cases h
 ·rw[Y2 e]at h;exact⟨e,h⟩
theorem BP{H:Hp}{a b:Addr}(h:H b=none):del H a b=none:=by
 by_cases e:b=a
 ·subst e;exact S5
 ·rw[Y2 e];exact h
structure CapOk (X:Cx) (clos:List (Str×Addr)) (fs:List Str) (js:List Nat):Prop where
 only:∀x c,clos.lookup x=some c->x∈fs/\X.env.cells.lookup x=some c
 has:∀x∈fs,∃c,clos.lookup x=some c
 kind:∀x∈fs,X.env.kindOf x=some .cell
 fn:∀x∈fs,X.fn x=true
 nm:∀(i:Nat) (x:Str),fs[i]? =some x->∃j,js[i]? =some j/\X.N[j]? =some x
 len:js.length=fs.length
noncomputable def dSZ(σ:St)(js:List Nat)(cvs:List V):Prop:=cvs.length=js.length/\∀(i j:Nat),js[i]? =some j->∃v,σ[j]? =some (some v)/\cvs[i]? =some v
structure LamAt (base:Heap) (name qual:Str) (params:Arguments) (body:Expr) (scope:Scope) (clos:List (Str×Addr)) (pm:Value) (c' f:Addr):Prop where
 fn:∃ctv,base.get? f=some (kla_obj name qual params body scope clos pm c' ctv)
 cd:base.CodeRec (.ref c') qual
theorem LamAt.fnAt{base:Heap}{name qual:Str}{params:Arguments}{body:Expr}{scope:Scope}{clos:List (Str×Addr)}{pm:Value}{c' f:Addr}(h:LamAt base name qual params body scope clos pm c' f):PySem.W.FnAt f base:=
 let⟨_,e⟩:=h.fn;⟨_,_,_,_,e⟩
noncomputable def caZ(name qual:Str)(params:Arguments)(body:Expr)(scope:Scope)(clos:List (Str×Addr))(pm:Value)(fs:List Str)(js:List Nat)(sp:Heap->Sp)(E:XK)(t:TA):TE:=fun σ H Q=>t σ H λvs H1=>
 ∃f c' cvs,dSZ σ js cvs/\H1 f=some (LamO name qual params body scope clos pm c' f)/\H1 c'=some (CodeO qual c')/\f≠c'/\
  ∀base',LamAt base' name qual params body scope clos pm c' f->Caught base' clos fs cvs->sp base' vs (del (del H1 f) c') (λv H'=>H' f=none->H' c'=none->Q v (upd H' c' (CodeO qual c'))) E
noncomputable def W4(h base:Heap)(l:List Addr):Heap:=PySem.W.hideAll h ((List.range h.objs.size).filter λa=>(base.get? a).isNone&& !l.contains a)
theorem RA(h base:Heap)(l:List Addr):(W4 h base l).objs.size=h.objs.size:=PySem.W.hideAll_size _ _
theorem Z1{h base:Heap}{l:List Addr}{b:Addr}{o:Obj}(e:h.get? b=some o)(k:(∃u,base.get? b=some u)\/b∈l):(W4 h base l).get? b=some o:=
 PySem.W.hideAll_get _ e λhm=>by
  have:=(mem_filter.mp hm).2
  rw[Bool.and_eq_true]at this
  rcases k with⟨u,k⟩|k
  ·rw[k]at this;simp at this
  ·simp[k]at this
theorem MZ{h base:Heap}{l:List Addr}{b:Addr}{o:Obj}(e:(W4 h base l).get? b=some o):h.get? b=some o/\((∃u,base.get? b=some u)\/b∈l):=by
 have e':h.get? b=some o:=PySem.W.of_hideAll _ e
 refine⟨e', ?_⟩
 by_cases k:(∃u,base.get? b=some u)\/b∈l
 ·exact k
 ·exfalso
  have z:(W4 h base l).get? b=none:=PySem.W.hideAll_none _ (mem_filter.mpr ⟨mem_range.mpr (lt_size e'),by
   rw[Bool.and_eq_true]
   constructor
   ·cases q:base.get? b with
    |none=>rfl
    |some u=>exact absurd (.inl ⟨u,q⟩) k
   ·simp;exact λq=>k (.inr q)⟩)
  rw[z]at e;cases e
theorem RF{h base:Heap}{l:List Addr}:∀ {es:List Env},(∀b∈frs es,b∉l)->h.FunFrames base es->h.FunFrames (W4 h base l) es:=by
 intro es
 induction es with
 |nil=>intro _ _;trivial
 |cons env r ih=>
  intro hs hl
  obtain⟨hk,⟨L,o,hf,hn,ho,hd⟩,hr⟩:=hl
  refine⟨hk,⟨L,o,hf, ?_,ho,hd⟩,ih (λb hb=>hs b (by unfold frs;rw[filterMap_cons,hf];exact mem_cons_of_mem _ hb)) hr⟩
  cases q:(W4 h base l).get? L with
  |none=>rfl
  |some u=>
   rcases(MZ q).2 with⟨v,z⟩|z
   ·rw[hn]at z;cases z
   ·exact absurd z (hs L (by unfold frs;rw[filterMap_cons,hf];exact mem_cons_self))
section
variable{X:Cx}{k:Nat}{g:Addr}{fd:FuncData}{ps:List Str}{sp:Heap->Sp}{x:Str}{p pos:Pos}{e:Expr}{es:List Expr}{t:TA}{name qual:Str}{params:Arguments}{body:Expr}{scope:Scope}{clos:List (Str×Addr)}{pm:Value}{fs:List Str}{js:List Nat}
theorem WG(F:∀base',FnOk X.prog X.w X.K X.mg base' CX0 k g fd ps (sp base'))(hr:Room k X.A)(hg:Gl X x)(hm:X.mg x=some (.ref g))(hk:kZ X.K (.ref g)=true)(hb:Binds X.K fd ps [])(C:CapOk X clos fs js)
  (ha:PA X (e::es) t)(hdb:(x==("__debug__":Str))=false:=by decide)(he:starEach (e::es) X.env=(false,eval e X.env)::starEach es X.env:=by rfl)(hpl:(backTo pos (starEach es X.env)).any (·.1)=false:=by rfl):
  PE X (.Call (.Name x p) (e::es) [] pos) (caZ name qual params body scope clos pm fs js sp E0 t):=by
 intro pins s σ H Q I h
 refine wpAny_Call_Name_kw (BF I hg hm ?_ hdb)
 refine callWith_K (h₀:=X.base) I.ok.mod.kin hk (thn (ha pos pins s σ H _ I h) λus s1 ⟨vs,H1,I1,r,q⟩=>⟨I1.kIn, ?_⟩) he hpl
 obtain⟨f,c',cvs,hcv,hf,hc,nfc,q⟩:=q
 obtain⟨⟨ctv,hfo⟩,_⟩:=I1.hok f _ hf
 obtain⟨⟨oc,vsc,tc,hoc,hdc,hvc⟩,_⟩:=I1.hok c' _ hc
 have cellOf:∀y∈fs,∃c,clos.lookup y=some c/\X.env.cells.lookup y=some c/\X.s₀.heap.objs.size<=c:=λy hy=>by
  obtain⟨c,e⟩:=C.has y hy
  exact⟨c,e,(C.only y c e).2,I1.ok.cab y c (C.fn y hy) (C.only y c e).2⟩
 generalize hl:f::c'::fs.filterMap (λy=>clos.lookup y)=l
 have lin:∀b∈l,b=f\/b=c'\/∃y∈fs,clos.lookup y=some b:=λb hb=>by
  rw[<-hl]at hb
  rcases cZ hb with e|hb
  ·exact .inl e
  rcases cZ hb with e|hb
  ·exact .inr (.inl e)
  obtain⟨y,hy,e⟩:=mem_filterMap.mp hb
  exact .inr (.inr ⟨y,hy,e⟩)
 have fl:f∈l:=by rw[<-hl];exact mem_cons_self
 have cl':c'∈l:=by rw[<-hl];exact mem_cons_of_mem _ mem_cons_self
 have yl:∀y∈fs,∀c,clos.lookup y=some c->c∈l:=λy hy c e=>by
  rw[<-hl];exact mem_cons_of_mem _ (mem_cons_of_mem _ (mem_filterMap.mpr ⟨y,hy,e⟩))
 have n2:∀ {b:Addr},H1 b=none->del (del H1 f) c' b=none:=λh=>BP (BP h)
 have nef:∀ {b:Addr} {o:HO},H1 b=some o->(∀φ,o≠ .ext φ)->b≠f/\b≠c':=λ{b o} e n=>
  ⟨λz=>by rw[z,hf]at e;exact n _ (Option.some.inj e).symm,λz=>by rw[z,hc]at e;exact n _ (Option.some.inj e).symm⟩
 have d2:∀ {b:Addr} {o:HO},H1 b=some o->(∀φ,o≠ .ext φ)->del (del H1 f) c' b=some o:=λ{b o} e n=>by
  obtain⟨a1,a2⟩:=nef e n
  rw[Y2 a2,Y2 a1];exact e
 have hok2:HOk X.prog X.w (del (del H1 f) c') s1.heap:=λb u e=>by
  obtain⟨_,e1⟩:=XJ e
  obtain⟨_,e2⟩:=XJ e1
  exact(I1.hok b u e2).stay (λ_ _ _ q=>q) (λd q=>d2 q fun φ z=>nomatch z) λd xs q=>d2 q fun φ z=>nomatch z
 have bk':∀b o,X.base.get? b=some o->(W4 s1.heap X.base l).get? b=some o:=λb o e=>Z1 (I1.bk b o e) (.inl ⟨o,e⟩)
 have nsK:∀ {b:Addr} {m:Str->Option Value},X.base.Ns b m->(W4 s1.heap X.base l).Ns b m:=λ{b m} ⟨o,es,ep,e,r⟩=>⟨o,es,ep,bk' _ _ e,r⟩
 have hM:Mod X.K X.mg (W4 s1.heap X.base l):=⟨I1.mod.kin.keeps bk',nsK I1.mod.glob,(let⟨mb,b1,b2⟩:=I1.mod.blt;⟨mb,nsK b1,b2⟩),I1.mod.nolimit.keeps bk'⟩
 have nstk:∀b∈frs X.stack,b∉l:=λb hb hbl=>by
  have hn:=I1.stkFree b hb
  rcases lin b hbl with z|z|⟨y,hy,z⟩
  ·rw[z,hf]at hn;cases hn
  ·rw[z,hc]at hn;cases hn
  ·obtain⟨c,e1,e2,e3⟩:=cellOf y hy
   rw[z]at e1;cases e1
   rcases cZ (I1.stkSub b hb)with q|q
   ·exact I1.cne y b e2 q
   ·obtain⟨_,o,ho,_⟩:=I1.ok.funs.mem q
    exact absurd (lt_of_lt_of_le (lt_size ho) e3) (lt_irrefl _)
 have e0:Env0 X.prog X.w X.K X.mg (W4 s1.heap X.base l) X.A X.stack s1 (del (del H1 f) c'):=⟨I1.ok.frames,hM,λb o e=>by
  obtain⟨e1,kk⟩:=MZ e
  refine⟨e1, ?_⟩
  rcases kk with⟨u,z⟩|z
  ·exact n2 (I1.bs b u z).2
  ·rcases lin b z with z|z|⟨y,hy,z⟩
   ·rw[z];exact BP S5
   ·rw[z];exact S5
   ·exact n2 (I1.freeC y b (C.only y b z).2),Nat.le_of_eq (RA _ _ _),RF nstk I1.stack,λb hb=>n2 (I1.stkFree b hb),hok2,I1.bare⟩
 have LA:LamAt (W4 s1.heap X.base l) name qual params body scope clos pm c' f:=⟨⟨ctv,Z1 hfo (.inr fl)⟩,⟨c',oc,vsc,tc,rfl,Z1 hoc (.inr cl'),hdc,hvc⟩⟩
 have CA:Caught (W4 s1.heap X.base l) clos fs cvs:=by
  refine⟨hcv.1.trans C.len,λy z c h1 h2=>I1.ok.inj y z c (C.only y c h1).2 (C.only z c h2).2,λy c h=>(C.only y c h).1,λi y hy=> ?_⟩
  have hym:y∈fs:=mem_of_getElem? hy
  obtain⟨c,c1,c2,_⟩:=cellOf y hym
  obtain⟨j,hj,hN⟩:=C.nm i y hy
  obtain⟨v,hv,hvc⟩:=hcv.2 i j hj
  obtain⟨m,hn,hlk⟩:=I1.loc
  obtain⟨u,ru,lk⟩:=hlk j y v hN hv (.inr (.inl (C.kind y hym)))
  rcases lk with⟨z,_⟩|⟨_,c3,e3,o,ho,hd⟩
  ·rw[C.kind y hym]at z;cases z
  ·rw[c2]at e3;cases e3
   exact⟨c,u,v,c1,⟨o,Z1 ho (.inr (yl y hym c c1)),hd⟩,hvc,ru⟩
 have hq:=q _ LA CA
 have hul:us.length=ps.length:=by rw[<-r.length];exact(F _).len _ _ _ _ hq
 have hbd:BindsTo s1 fd ⟨us,[]⟩ (ps.zip us):=by
  have:=hb s1 us I1.kIn (by rw[append_nil];exact hul)
  rw[append_nil]at this;exact this
 refine wpAny_call (codeAny_mono ((F _).run X.A X.stack s1 _ ⟨us,[]⟩ us vs _ E0 hr e0 hbd r hq) λrr s' hR=> ?_)
 cases rr with
 |error e=>exact False.elim hR
 |ok fl'=>
  cases fl' with
  |next=>exact False.elim hR
  |brk=>exact False.elim hR
  |cont=>exact False.elim hR
  |ret u=>
   obtain⟨v,H',os,bare,un,hok',rv,hQ⟩:=hR
   obtain⟨hh,g',d',t',os'⟩:=s'
   obtain rfl:os'=s1.os:=os
   have cst:c'∉frs X.stack:=λz=>by have:=I1.stkFree c' z;rw[hc]at this;cases this
   have hc2:hh.get? c'=some oc:=un.keep c' oc hoc S5 cst (by simp)
   have hcn:H' c'=none:=un.free c' oc hoc S5 (by simp)
   have hfn':H' f=none:=un.free f _ hfo (BP S5) (by simp)
   have up:∀ {b:Addr} {o:HO},H' b=some o->upd H' c' (CodeO qual c') b=some o:=λ{b o} e=>by rw[B0 (C6 e hcn)];exact e
   refine⟨v,upd H' c' (CodeO qual c'), ?_,rv,hQ hfn' hcn⟩
   refine I1.step (g':=g') (d':=d') (t':=t') (h':=hh) (ch:=[]) (λ_ z=>nomatch z) (λb o hL hbf _ e n=>un.keep b o e (n2 n) (λz=>(cZ (I1.stkSub b z)).elim hL hbf) (by simp)) (λb o _ _ _ e n=>un.any e (n2 n) (by simp))
    (λb o _ e n=> ?_) (λb o _ e=>un.there b o e (by simp)) (λb xs e=>up (un.tups b xs (d2 e fun φ z=>nomatch z))) (λb o u e=>up (un.frzs b o u (d2 e fun φ z=>nomatch z))) (λb qs e=> ?_) (λm hm=> ?_) (λb w e=> ?_) bare
   ·have ne:b≠c':=λz=>by rw[z,hc]at n;cases n
    rw[B0 ne];exact un.free b o e (n2 n) (by simp)
   ·obtain⟨more,e1⟩:=un.tbls b qs (d2 e fun φ z=>nomatch z)
    exact⟨more,up e1⟩
   ·obtain⟨o',es',ep',ho',r'⟩:=hm
    obtain⟨sl,hL⟩:=un.any ho' (n2 I1.free) (by simp)
    exact⟨_,es',ep',hL,r'⟩
   ·by_cases z:b=c'
    ·subst z;rw[A2]at e;cases e
     exact CodeO.ok hc2 hdc hvc
    ·rw[B0 z]at e
     exact(hok' b w e).stay (λ_ _ _ q=>q) (λd q=>up q) λd xs q=>up q
end
noncomputable def EO(K:FZ)(base:Heap)(f:Addr):Prop:=kZ K (.ref f)=true\/PySem.W.FnAt f base
noncomputable def aJZ(P:Program)(w:World)(K:FZ)(mg:Str->Option Value)(base:Heap)(A:Around)(CX:CXT)(E:XK)(tf:TE)(t:TA):TE:=fun σ H Q=>tf σ H λx H0=>∃(f:Addr) (fd:FuncData) (ps:List Str) (sp:Sp) (k:Nat),
 x=.ref f/\FnOk P w K mg base CX k f fd ps sp/\Room k A/\EO K base f/\Binds K fd ps []/\t σ H0 λvs H1=>sp vs H1 Q E
section
variable{X:Cx}{P:Program}{w:World}{K:FZ}{mg:Str->Option Value}{base:Heap}{A:Around}{CX:CXT}{E:XK}{x:Str}{p pos:Pos}{e:Expr}{es:List Expr}{tf:TE}{t:TA}
theorem HP(hf:PE X (.Name x p) tf)(hx:V7 CX X E)(ha:PA X (e::es) t)(hP:X.prog=P:=by rfl)(hw:X.w=w:=by rfl)(hK:X.K=K:=by rfl)(hmg:X.mg=mg:=by rfl)(hbs:X.base=base:=by rfl)(hA:X.A=A:=by rfl)
  (he:starEach (e::es) X.env=(false,eval e X.env)::starEach es X.env:=by rfl)(hpl:(backTo pos (starEach es X.env)).any (·.1)=false:=by rfl):
  PE X (.Call (.Name x p) (e::es) [] pos) (aJZ P w K mg base A CX E tf t):=by
 subst hP;subst hw;subst hK;subst hmg;subst hbs;subst hA
 intro pins s σ H Q I h
 refine wpAny_Call_Name_kw (thn (hf pins s σ H _ I h) λfv s0 ⟨y,H0,I0,r0,q0⟩=> ?_)
 obtain⟨f,fd,ps,sp,k,rfl,F,hr,hk,hb,q⟩:=q0
 cases r0
 rcases hk with hk|⟨oc,od,fd',sl,ho⟩
 ·refine callWith_K (h₀:=X.base) I0.ok.mod.kin hk (thn (ha pos pins s0 σ H0 _ I0 q) λus s1 ⟨vs,H1,I1,r,q1⟩=>⟨I1.kIn, ?_⟩) he hpl
  exact FV (dvs:=[]) F hr hb .nil hx I1 r (by rw[append_nil];exact q1)
 ·refine PySem.W.callWith_F ⟨oc,od,fd',sl,I0.bk _ _ ho⟩ (thn (ha pos pins s0 σ H0 _ I0 q) λus s1 ⟨vs,H1,I1,r,q1⟩=>⟨⟨oc,od,fd',sl,I1.bk _ _ ho⟩, ?_⟩) he hpl
  exact FV (dvs:=[]) F hr hb .nil hx I1 r (by rw[append_nil];exact q1)
end
theorem Fun.okC{P:Program}{w:World}{K:FZ}{mg:Str->Option Value}{base:Heap}{x qual:Str}{st:Stmt}{f:Addr}{fd:FuncData}{N ps:List Str}{k:Nat}{sp:Sp}(F:Fun K x qual st f fd)(S:FnScope N ps (A9 st))(len:∀vs H Q E,sp vs H Q E->vs.length=ps.length)
  (hbody:∀(cdv:Value) (A:Around) (outer:List Env) (s:Shared) (H:Hp) (vs:List V) (Q:VK) (E:XK),fd.code=cdv->Room k (A.deeper (envOfC qual (A9 st) s.heap.objs.size f cdv))->sp vs H Q E->
   ∃t,PSs (LX CX0 P w K mg base N qual (A9 st) f cdv A outer s H E).nox (E5 st) t/\t {nx:=λ_ H'=>Q .non H',rt:=Q} (start N vs) H):FnOk P w K mg base CX0 (k+1) f fd ps sp:=by
 obtain⟨oc,od,kV,doc,pm,an,cdv,ct,osl,rfl,lk,hcd⟩:=F.ex
 refine bkZ lk hcd S len λA outer s H vs Q E hr hsp=> ?_
 obtain⟨t,h,q⟩:=hbody cdv A outer s H vs Q E rfl hr hsp
 exact⟨t,h.nox,q⟩
structure OnlyT (tabs:List (Addr×Addr)) (H:Hp):Prop where
 only:∀b,H b=none\/(∃o xs,H b=some (.frz o (.lst xs)))\/H b=some (.tbl #[])
 tab:∀q∈tabs,H q.2=some (.tbl #[])
structure TabsB (tabs:List (Addr×Addr)) (mg:Str->Option Value) (base:Heap):Prop where
 code:∀q∈tabs,PySem.W.CodeHd base q.1 q.2
 blt:∀q∈tabs,base.BuiltinsAt mg q.2
theorem VC{P:Program}{w:World}{K:FZ}{mg mb:Str->Option Value}{CX:CXT}{k:Nat}{fa a:Addr}{fd:FuncData}{x:Str}{sp:Sp}{s₁:Shared}{vs:List Value}{ns:List Int}{tabs:List (Addr×Addr)}
  (KX:K.In s₁.heap)(hns:s₁.heap.Ns mainGlobals mg)(hb:s₁.heap.Ns builtinsNs mb)(hbb:∀x:Str,x≠ "__name__"->mb x=bootBuiltins x)(hlim:s₁.heap.NoLimit)(hg:s₁.gens= #[])
  (hT:PySem.W.TabsAt tabs s₁.heap)(hK:PySem.W.noTabs K=true)(hbm:∃bm ob,mg "__builtins__"=some (.ref bm)/\bm≠builtinsNs/\s₁.heap.get? bm=some ob/\ob.cls=.type "module"/\ob.dict=some builtinsNs/\ob.data=.plain)
  (ha:s₁.heap.get? a=some {cls:=.type "list",data:=.seq vs.toArray})(hi:IntsAre vs ns)(hl:ns.length<=sizeLine)(hr:Room k callerA)
  (F:∀base:Heap,K.In base->base.Ns mainGlobals mg->TabsB tabs mg base->FnOk P w K mg base CX k fa fd [x] sp)(hbind:∀(s:Shared) (u:Value),BindsTo s fd ⟨[u],[]⟩ [(x,u)])
  (hsp:∀H:Hp,OnlyT tabs H->SqL K H a (ns.map V.int)->sp [.ref a] H (λv _=>v=.bl true) λ_ _ _=>False)
  (hCX:∀H e s',CX [] H s₁ (λ_ _ _=>False) e s'->False):
  codeAny (model P w) callerA (.call (.ref fa) ⟨[.ref a],[]⟩) (λr s'=>r=.ok (.ret (.bool true))/\OldK s₁.heap s'.heap/\s'.os=s₁.os/\AllBare s'.gens) s₁:=by
 have rv:=HM hi
 have lenV:=hi.length
 have core:∀H:Hp,OnlyT tabs H->SqL K H a (ns.map V.int)->HOk P w H s₁.heap->(∀b,H b≠none->b=a\/b∈tabs.map (·.2))->(H a≠none->K.lookup a=none)->
   codeAny (model P w) callerA (.call (.ref fa) ⟨[.ref a],[]⟩) (λr s'=>r=.ok (.ret (.bool true))/\OldK s₁.heap s'.heap/\s'.os=s₁.os/\AllBare s'.gens) s₁:=by
  intro H hO hS hok hA hKa
  have base_of:∀ {b:Addr} {o:Obj},s₁.heap.get? b=some o->H b=none->(HA s₁.heap H).get? b=some o:=λe n=>YO e n
  have isT:∀ {b:Addr},H b≠none->s₁.heap.get? b=some {cls:=.type "list",data:=.seq vs.toArray}\/s₁.heap.get? b=some (PySem.W.tabObj #[]):=λ{b} h=>by
   rcases hA b h with e|e
   ·rw[e];exact .inl ha
   ·obtain⟨q,hq,rfl⟩:=mem_map.mp e
    exact .inr (hT q hq).2
  have noA:∀ {b:Addr} {o:Obj},s₁.heap.get? b=some o->o≠ {cls:=.type "list",data:=.seq vs.toArray}->o≠PySem.W.tabObj #[]->H b=none:=λ{b o} e n1 n2=>by
   cases q:H b with
   |none=>rfl
   |some u=>
    rcases isT (b:=b) (by rw[q];simp)with z|z<;>rw[e]at z
    ·exact absurd (Option.some.inj z) n1
    ·exact absurd (Option.some.inj z) n2
  have nsK:∀ {b:Addr} {m:Str->Option Value},s₁.heap.Ns b m->(HA s₁.heap H).Ns b m:=λ{b m} ⟨o,es,ep,e,d,r⟩=>⟨o,es,ep,base_of e (noA e (λz=>by rw[z]at d;cases d) λz=>by rw[z]at d;cases d),d,r⟩
  have hKb:K.In (HA s₁.heap H):=λb o e=>base_of (KX b o e) (by
   cases q:H b with
   |none=>rfl
   |some u=>
    rcases hA b (by rw[q];simp)with z|z
    ·subst z
     rw[hKa (by rw[q];simp)]at e;cases e
    ·obtain⟨t,ht,rfl⟩:=mem_map.mp z
     have h2:=all_eq_true.mp hK _ (PySem.W.mem_of_lookupK e)
     have h3:=KX _ _ e
     rw[(hT t ht).2]at h3
     cases h3
     exact absurd (show false=true from h2) nZ)
  have hM:Mod K mg (HA s₁.heap H):=⟨hKb,nsK hns,⟨mb,nsK hb,hbb⟩,let⟨mc,h1,h2⟩:=hlim;⟨mc,nsK h1,h2⟩⟩
  have hTB:TabsB tabs mg (HA s₁.heap H):=by
   refine⟨λq hq=> ?_,λq hq=> ?_⟩
   ·obtain⟨o,vs',file,tf,flags,tg,inF,text,tt,e,c1,c2,r⟩:=(hT q hq).1
    exact⟨o,vs',file,tf,flags,tg,inF,text,tt,base_of e (noA e (λz=>by rw[z]at c1;injection c1 with q;exact absurd q (by decide)) λz=>by rw[z]at c1;cases c1),c1,c2,r⟩
   ·obtain⟨bm,ob,b1,b2,b3,b4,b5,b6⟩:=hbm
    refine⟨bm,ob,b1,b2,λz=> ?_,λz=> ?_,base_of b3 (noA b3 (λz=>by rw[z]at b4;injection b4 with q;exact absurd q (by decide)) λz=>by rw[z]at b4;cases b4),b4,b5,b6⟩
    ·obtain⟨o,es,ep,e,hd,_⟩:=hns
     rw[z,e]at b3;cases b3;rw[hd]at b6;cases b6
    ·rw[z,(hT q hq).2]at b3;cases b3;cases b4
  have e0:Env0 P w K mg (HA s₁.heap H) callerA [] s₁ H:=⟨rfl,hM,λb o e=>ZR e,Nat.le_of_eq (UR _ _),trivial,λb hb=>absurd (show b∈([]:List Addr)from hb) (by simp),hok,.of_eq hg⟩
  refine codeAny_mono ((F _ hKb (nsK hns) hTB).run callerA [] s₁ H ⟨[.ref a],[]⟩ [.ref a] [.ref a] _ _ hr e0 (hbind s₁ (.ref a)) (.cons rfl .nil) (hsp H hO hS)) λr s' h=> ?_
  cases r with
  |error e=>exact(hCX H e s' h).elim
  |ok fl=>
   cases fl with
   |next=>exact False.elim h
   |brk=>exact False.elim h
   |cont=>exact False.elim h
   |ret u=>
    obtain⟨v,H',os,bare,un,hok',r',q⟩:=h
    have q':v=.bl true:=q
    subst q'
    obtain rfl:u=Value.bool true:=r'
    have nofr:∀b:Addr,b∉frs ([]:List Env):=λb z=>absurd (show b∈([]:List Addr)from z) (by simp)
    refine⟨rfl,⟨λb o e=> ?_,λb o e=>un.there b o e (by simp)⟩,os,bare⟩
    cases q:H b with
    |none=>exact .inl (un.keep b o e q (nofr b) (by simp))
    |some u=>
     rcases hO.only b with z|⟨ob,xs,z⟩|z
     ·rw[q]at z;cases z
     ·have z2:=un.frzs b ob _ z
      obtain⟨e1,_⟩:=hok b _ z
      obtain⟨e2,_⟩:=hok' b _ z2
      rw[e]at e1;cases e1
      exact .inl e2
     ·obtain⟨more,z2⟩:=un.tbls b #[] z
      have e2:s'.heap.get? b=some {cls:=.none,data:=.fields (#[]++more)}:=hok' b _ z2
      have e1:s₁.heap.get? b=some {cls:=.none,data:=.fields #[]}:=hok b _ z
      rw[e]at e1;cases e1
      rcases hA b (by rw[q];simp)with y|y
      ·rw[y,ha]at e;cases e
      ·obtain⟨t,ht,rfl⟩:=mem_map.mp y
       obtain⟨o,vs',file,tf,flags,tg,inF,text,tt,e',c1,c2,c3,r⟩:=(hT t ht).1
       exact .inr (.inl ⟨⟨t.1,o,vs',e',c1,c2,c3⟩,rfl, #[],more,rfl,e2⟩)
 have tne:∀q∈tabs,q.2≠a:=λq hq z=>by have:=(hT q hq).2;rw[z,ha]at this;cases this
 have mk:∀H0:Hp,(∀b,H0 b≠none->b=a)->(∀b,H0 b=none\/∃o xs,H0 b=some (.frz o (.lst xs)))->SqL K H0 a (ns.map V.int)->HOk P w H0 s₁.heap->(H0 a≠none->K.lookup a=none)->
   codeAny (model P w) callerA (.call (.ref fa) ⟨[.ref a],[]⟩) (λr s'=>r=.ok (.ret (.bool true))/\OldK s₁.heap s'.heap/\s'.os=s₁.os/\AllBare s'.gens) s₁:=by
  intro H0 h1 h2 h3 h4 h5
  generalize hH:(λb=>if b∈tabs.map (·.2)then some (HO.tbl #[])else H0 b:Hp)=H
  have inT:∀ {b},b∈tabs.map (·.2)->H b=some (.tbl #[]):=λ{b} h=>by rw[<-hH];exact if_pos h
  have outT:∀ {b},b∉tabs.map (·.2)->H b=H0 b:=λ{b} h=>by rw[<-hH];exact if_neg h
  have nT:a∉tabs.map (·.2):=λz=>by obtain⟨q,hq,e⟩:=mem_map.mp z;exact tne q hq e
  have up:∀ {b o},H0 b=some o->H b=some o:=λ{b o} e=>by
   have:b=a:=h1 b (by rw[e];simp)
   rw[outT (by rw[this];exact nT)];exact e
  refine core H ⟨λb=> ?_,λq hq=>inT (List.mem_map_of_mem hq)⟩ ?_ (λb u e=> ?_) (λb hb=> ?_) (λh=>h5 (by rw[outT nT]at h;exact h))
  ·by_cases hb:b∈tabs.map (·.2)
   ·exact .inr (.inr (inT hb))
   ·rw[outT hb];exact(h2 b).elim .inl λh=> .inr (.inl h)
  ·rcases h3 with h|h
   ·rcases h with h|⟨o,h⟩
    ·exact .inl (.inl (up h))
    ·exact .inl (.inr ⟨o,up h⟩)
   ·exact .inr h
  ·by_cases hb:b∈tabs.map (·.2)
   ·rw[inT hb]at e;cases e
    obtain⟨q,hq,rfl⟩:=mem_map.mp hb
    exact(hT q hq).2
   ·rw[outT hb]at e
    exact(h4 b u e).stay (λ_ _ _ q=>q) (λ_ q=>up q) λ_ _ q=>up q
  ·by_cases hb':b∈tabs.map (·.2)
   ·exact .inr hb'
   ·rw[outT hb']at hb;exact .inl (h1 b hb)
 cases hk:K.lookup a with
 |some o=>
  have e:=KX a o hk
  rw[ha]at e
  cases e
  exact mk (λ_=>none) (λb z=>absurd rfl z) (λ_=> .inl rfl) (.inr ⟨_,vs.toArray,_,hk,rfl,rfl,rfl,by rw[size_toArray,lenV];exact hl,by simpa using rv⟩) (λb u z=>by have z':(none:Option HO)=some u:=z;cases z') λz=>absurd rfl z
 |none=>
  refine mk (λb=>if b=a then some (.frz {cls:=.type "list",data:=.seq vs.toArray} (.lst (ns.map V.int)))else none) (λb z=> ?_) (λb=> ?_) (.inl (.inr ⟨{cls:=.type "list",data:=.seq vs.toArray},if_pos rfl⟩)) (λb u z=> ?_) λ_=>hk
  ·by_cases hb:b=a
   ·exact hb
   ·exact absurd (if_neg hb) z
  ·by_cases hb:b=a
   ·exact .inr ⟨_,_,if_pos hb⟩
   ·exact .inl (if_neg hb)
  ·by_cases hb:b=a
   ·have z':=(if_pos hb).symm.trans z
    cases z'
    subst hb
    exact⟨ha,by rw[length_map];exact hl,vs,_,rv,ha⟩
   ·have z':=(if_neg hb).symm.trans z
    cases z'
theorem walk_ofKT{l:PySem.W.OpenLaw}{n k:Nat}{q:Program}{loose:List Str}{XP:(Str->Option Value)->Heap->Prop}{YP:World->Heap->Prop}{d:DefRec}{K:Params->FZ}{CX:CXT}{sp:FZ->Sp}{x:Str}{tabs:List (Addr×Addr)}
  (hn:l.most=some n)(hn2:n<=sizeLine)(hdf:d.params.defaults=[])(hr:Room k callerA)
  (hY:∀(w:World) (h:Heap),YP w h->(K w.params).In h)
  (hT:∀(w:World) (lo:List Str) (mean:ExcName->Option Value) (mg mb:Str->Option Value) (h:Heap),Top q lo mean mg mb h->(K w.params).In h->PySem.W.TabsAt tabs h)(hK:∀w:World,PySem.W.noTabs (K w.params)=true)
  (F:∀(w:World) (mg:Str->Option Value) (fa:Addr) (h:Heap),(K w.params).In h->h.Ns mainGlobals mg->mg d.name=some (.ref fa)->
   ∃fd:FuncData,(∀(s:Shared) (u:Value),BindsTo s fd ⟨[u],[]⟩ [(x,u)])/\
    ∀base:Heap,(K w.params).In base->base.Ns mainGlobals mg->TabsB tabs mg base->FnOk l.prog w (K w.params) mg base CX k fa fd [x] (sp (K w.params)))
  (hsp:∀(K:FZ) (H:Hp) (a:Addr) (ns:List Int),ns.length<=n->OnlyT tabs H->SqL K H a (ns.map V.int)->sp K [.ref a] H (λv _=>v=.bl true) λ_ _ _=>False)
  (hCX:∀(H:Hp) (s:Shared) (e:Value) (s':Shared),CX [] H s (λ_ _ _=>False) e s'->False):
  PySem.W.WalkO q loose XP YP l.row.toRowW d [] (λf vs=>PySem.call f vs):=by
 refine Att.attach_call hn hdf λw s₀ s₁ mg mb fa o pm cd doc a vs ns G Y ho hd hcd hmg hobj hints hlen hg=> ?_
 have KX:=hY w _ Y
 obtain⟨fd,hb,hF⟩:=F w mg fa _ KX G.T.g hmg
 exact VC KX G.T.g G.T.b G.T.builtins G.T.nolimit hg (hT w _ _ mg mb _ G.T KX) (hK w) G.T.bmain hobj hints (le_trans hlen hn2) hr hF hb (λH hO hS=>hsp (K w.params) H a ns hlen hO hS) λH e s'=>hCX H s₁ e s'
section
variable{κ:Type}[DecidableEq κ]
noncomputable def N8(kvs:List (κ×V))(k:κ):Option V:=(kvs.find? λkv=>decide (kv.1=k)).map (·.2)
noncomputable def V8(kvs:List (κ×V))(k:κ)(v:V):List (κ×V):=
 if(kvs.any λkv=>decide (kv.1=k))=true then kvs.map (λkv=>if kv.1=k then(kv.1,v)else kv)else kvs++ [(k,v)]
theorem N6{p:κ×V}{r:List (κ×V)}{k:κ}(e:p.1=k):N8 (p::r) k=some p.2:=by simp[N8,find?_cons,e]
theorem N9{p:κ×V}{r:List (κ×V)}{k:κ}(e:¬p.1=k):N8 (p::r) k=N8 r k:=by simp[N8,find?_cons,e]
theorem BN(k:κ):∀kvs:List (κ×V),(kvs.any λkv=>decide (kv.1=k))=(N8 kvs k).isSome
 | []=>rfl
 |p::r=>by
  rw[any_cons]
  by_cases e:p.1=k
  ·simp only[N6 e,decide_eq_true e,Bool.true_or,Option.isSome_some]
  ·rw[N9 e,decide_eq_false e,Bool.false_or];exact BN k r
theorem NC(k j:κ)(y:V):∀kvs:List (κ×V),N8 (kvs.map λkv=>if kv.1=k then(kv.1,y)else kv) j=(N8 kvs j).map λx=>if j=k then y else x
 | []=>rfl
 |p::r=>by
  have ih:=NC k j y r
  rw[map_cons]
  by_cases h:p.1=k
  ·rw[if_pos h]
   by_cases e:p.1=j
   ·rw[N6 (p:=(p.1,y)) e,N6 e,map_some,if_pos (e.symm.trans h)]
   ·rw[N9 (p:=(p.1,y)) e,N9 e,ih]
  ·rw[if_neg h]
   by_cases e:p.1=j
   ·rw[N6 (p:=p) e,N6 e,map_some,if_neg (λz=>h (e.trans z))]
   ·rw[N9 (p:=p) e,N9 e,ih]
theorem HV(k j:κ)(y:V):∀kvs:List (κ×V),N8 kvs k=none->N8 (kvs++ [(k,y)]) j=if j=k then some y else N8 kvs j
 | [],_=>by
  by_cases e:k=j
  ·rw[if_pos e.symm];exact N6 (p:=(k,y)) e
  ·rw[if_neg (λz=>e z.symm)];exact N9 (p:=(k,y)) e
 |p::r,hn=>by
  rw[List.cons_append]
  have hk:¬p.1=k:=λz=>by rw[N6 z]at hn;cases hn
  rw[N9 hk]at hn
  have ih:=HV k j y r hn
  by_cases e:p.1=j
  ·rw[N6 e,N6 e,if_neg (λz=>hk (e.trans z))]
  ·rw[N9 e,N9 e,ih]
theorem EY(kvs:List (κ×V))(k j:κ)(y:V):N8 (V8 kvs k y) j=if j=k then some y else N8 kvs j:=by
 unfold V8
 by_cases a:(kvs.any λkv=>decide (kv.1=k))=true
 ·rw[if_pos a,NC]
  rw[BN]at a
  by_cases e:j=k
  ·obtain⟨x,hx⟩:=Option.isSome_iff_exists.mp a
   rw[if_pos e,e,hx,map_some,if_pos rfl]
  ·rw[if_neg e]
   cases N8 kvs j with
   |none=>rfl
   |some x=>rw[map_some,if_neg e]
 ·rw[if_neg a]
  refine HV k j y kvs ?_
  rw[BN]at a
  cases q:N8 kvs k with
  |none=>rfl
  |some x=>rw[q]at a;exact(a rfl).elim
theorem T2(kvs:List (κ×V))(k:κ)(v:V):(V8 kvs k v).length<=kvs.length+1:=by
 unfold V8
 split
 ·rw[length_map];omega
 ·rw[length_append,length_cons,length_nil];omega
theorem RelO.isSome_eq{o:Option V}{u:Option Value}(r:RelO o u):o.isSome=u.isSome:=by
 cases o with
 |none=>cases u with
  |none=>rfl
  |some _=>exact(show False from r).elim
 |some _=>cases u with
  |none=>exact(show False from r).elim
  |some _=>rfl
theorem KV.val{kvs:List (κ×V)}{vs:List (κ×Value)}(r:KV kvs vs)(k:κ):RelO (N8 kvs k) (valueAt vs k):=by
 unfold KV at r
 induction r with
 |nil=>exact True.intro
 | @cons p q ps qs h t ih=>
  obtain⟨h1,h2⟩:=h
  by_cases e:p.1=k
  ·have e':q.1=k:=h1.symm.trans e
   have b:valueAt (q::qs) k=some q.2:=by simp[valueAt,find?_cons,e']
   rw[N6 e,b];exact h2
  ·have e':¬q.1=k:=λz=>e (h1.trans z)
   have b:valueAt (q::qs) k=valueAt qs k:=by simp[valueAt,find?_cons,e']
   rw[N9 e,b];exact ih
theorem KV.any{kvs:List (κ×V)}{vs:List (κ×Value)}(r:KV kvs vs)(k:κ):(kvs.any λkv=>decide (kv.1=k))=vs.any λkv=>decide (kv.1=k):=by
 unfold KV at r
 induction r with
 |nil=>rfl
 |cons h t ih=>rw[any_cons,any_cons,ih,h.1]
theorem KV.repl{kvs:List (κ×V)}{vs:List (κ×Value)}(r:KV kvs vs)(k:κ){y:V}{u:Value}(ry:RelV y u):
  KV (kvs.map λkv=>if kv.1=k then(kv.1,y)else kv) (vs.map λkv=>if kv.1=k then(kv.1,u)else kv):=by
 unfold KV at r⊢
 induction r with
 |nil=>exact .nil
 | @cons p q ps qs h t ih=>
  rw[map_cons,map_cons]
  refine .cons ?_ ih
  obtain⟨h1,h2⟩:=h
  by_cases e:p.1=k
  ·rw[if_pos e,if_pos (h1.symm.trans e)];exact⟨h1,ry⟩
  ·rw[if_neg e,if_neg (λz=>e (h1.trans z))];exact⟨h1,h2⟩
theorem KV.put{kvs:List (κ×V)}{vs:List (κ×Value)}(r:KV kvs vs)(k:κ){y:V}{u:Value}(ry:RelV y u):KV (V8 kvs k y) (stored vs k u):=by
 unfold V8 stored
 rw[r.any k]
 by_cases e:(vs.any λkv=>decide (kv.1=k))=true
 ·rw[if_pos e,if_pos e];exact r.repl k ry
 ·rw[if_neg e,if_neg e];exact Paired.snoc r ⟨rfl,ry⟩
theorem KV.length{kvs:List (κ×V)}{vs:List (κ×Value)}(r:KV kvs vs):kvs.length=vs.length:=Paired.length r
end
theorem RX{P:Program}{w:World}{k:Key}{u:Value}(r:RelV (kV k) u):(L7 P w).is k u=true:=by
 cases k with
 |inl i=>obtain⟨t,e⟩:=(show∃t,u=Value.int i t from r);subst e;exact MP P w i t
 |inr x=>obtain⟨t,e⟩:=(show∃t,u=Value.str x t from r);subst e;exact MH P w x t
theorem HK{P:Program}{w:World}:∀ {ks:List Key} {us:List Value},Vals (ks.map kV) us->ItemsAre (L7 P w) ks us
 | [],_,r=>by rw[map_nil]at r;cases r;exact .nil
 |k::ks,_,r=>by
  rw[map_cons]at r
  cases r with
  |cons h t=>exact .cons (RX h) (HK t)
noncomputable abbrev KT(H:Hp):List (List Key×V)->List (List Key×Addr×Value)->Prop:=Paired λp q=>p.1=q.1/\H q.2.1=some (.tup (p.1.map kV))/\RelV p.2 q.2.2
theorem KT.val{H:Hp}{kvs:List (List Key×V)}{xs:List (List Key×Addr×Value)}(r:KT H kvs xs)(k:List Key):RelO (N8 kvs k) ((atKey xs k).map (·.2)):=by
 induction r with
 |nil=>exact True.intro
 | @cons p q ps qs h t ih=>
  obtain⟨h1,_,h2⟩:=h
  by_cases e:p.1=k
  ·have e':q.1=k:=h1.symm.trans e
   have b:atKey (q::qs) k=some q.2:=by simp[atKey,find?_cons,e']
   rw[N6 e,b];exact h2
  ·have e':¬q.1=k:=λz=>e (h1.trans z)
   have b:atKey (q::qs) k=atKey qs k:=by simp[atKey,find?_cons,e']
   rw[N9 e,b];exact ih
theorem KT.repl{H:Hp}{kvs:List (List Key×V)}{xs:List (List Key×Addr×Value)}(r:KT H kvs xs)(k:List Key){y:V}{u:Value}(ry:RelV y u):
  KT H (kvs.map λkv=>if kv.1=k then(kv.1,y)else kv) (xs.map (putAt k u)):=by
 induction r with
 |nil=>exact .nil
 | @cons p q ps qs h t ih=>
  rw[map_cons,map_cons]
  refine .cons ?_ ih
  obtain⟨h1,h2,h3⟩:=h
  unfold putAt
  by_cases e:p.1=k
  ·rw[if_pos e,if_pos (h1.symm.trans e)];exact⟨h1,h2,ry⟩
  ·rw[if_neg e,if_neg (λz=>e (h1.trans z))];exact⟨h1,h2,h3⟩
theorem KT.put{H:Hp}{kvs:List (List Key×V)}{xs:List (List Key×Addr×Value)}(r:KT H kvs xs)(k:List Key){b:Addr}{y:V}{u:Value}(hb:H b=some (.tup (k.map kV)))(ry:RelV y u):
  KT H (V8 kvs k y) (storedH xs k b u):=by
 have e:(kvs.any λkv=>decide (kv.1=k))=(atKey xs k).isSome:=by
  rw[BN,(r.val k).isSome_eq,Option.isSome_map]
 unfold V8 storedH
 rw[e]
 by_cases q:(atKey xs k).isSome=true
 ·rw[if_pos q,if_pos q];exact r.repl k ry
 ·rw[if_neg q,if_neg q];exact Paired.snoc r ⟨rfl,hb,ry⟩
theorem KT.keeps{H H':Hp}{kvs:List (List Key×V)}{xs:List (List Key×Addr×Value)}(r:KT H kvs xs)(ht:∀b ys,H b=some (.tup ys)->H' b=some (.tup ys)):KT H' kvs xs:=
 Paired.mapP r λ_ _ z=>⟨z.1,ht _ _ z.2.1,z.2.2⟩
section
variable{P:Program}{w:World}{H:Hp}{h:Heap}{a:Addr}
theorem a6Z{u:HO}(ok:HOk P w H h)(e:Rd H a u):ObjOk P w H h a u:=e.ok ok
theorem WK{kvs:List (Key×V)}(ok:HOk P w H h)(e:Rd H a (.dK kvs)):kvs.length<=sizeLine/\(a==sysModules)=false/\∃vs,KV kvs vs/\h.DictOf (L7 P w) a vs:=
 show ObjOk P w H h a (.dK kvs)from a6Z ok e
theorem bcZ{kvs:List (Key×V)}(ok:HOk P w H h)(e:H a=some (.dK kvs)):kvs.length<=sizeLine/\(a==sysModules)=false/\∃vs,KV kvs vs/\h.DictOf (L7 P w) a vs:=WK ok (.inl e)
theorem PZ{ks:List Key}(ok:HOk P w H h)(e:H a=some (.tup (ks.map kV))):(tupleKind (L7 P w)).is h ks a:=by
 obtain⟨_,its,r,o,h1,h2,n,h3⟩:=(show ObjOk P w H h a (.tup (ks.map kV))from ok a _ e)
 exact⟨o,its.toArray,n,h1,h2,h3,by simpa using HK r⟩
theorem ZL{kvs:List (List Key×V)}(ok:HOk P w H h)(e:Rd H a (.dT kvs)):kvs.length<=sizeLine/\(a==sysModules)=false/\
  ∃xs,KT H kvs xs/\h.DictOfH (tupleKind (L7 P w)) a xs:=by
 obtain⟨z,y,xs,r,o,es,ep,h1,h2,h3,h4,h5⟩:=(show ObjOk P w H h a (.dT kvs)from a6Z ok e)
 refine⟨z,y,xs,r,o,es,ep,h1,h2,h3,h4,λx hx=> ?_,h5⟩
 have all:∀ {l:List (List Key×V)} {m:List (List Key×Addr×Value)},KT H l m->∀x∈m,(tupleKind (L7 P w)).is h x.1 x.2.1:=by
  intro l m q
  induction q with
  |nil=>intro x hx;exact nomatch hx
  | @cons p q ps qs hq t ih=>
   intro x hx
   rcases cZ hx with e|hx
   ·subst e
    exact PZ ok (by rw[<-hq.1];exact hq.2.1)
   ·exact ih x hx
 exact all r x hx
theorem dqZ{kvs:List (List Key×V)}(ok:HOk P w H h)(e:H a=some (.dT kvs)):kvs.length<=sizeLine/\(a==sysModules)=false/\
  ∃xs,KT H kvs xs/\h.DictOfH (tupleKind (L7 P w)) a xs:=ZL ok (.inl e)
end
noncomputable def DGet(H:Hp)(a:Addr)(y:V)(r:Option V):Prop:=
 (∃kvs k,Rd H a (.dK kvs)/\y=kV k/\r=N8 kvs k)\/∃kvs k b,Rd H a (.dT kvs)/\y=.ref b/\H b=some (.tup (k.map kV))/\r=N8 kvs k
noncomputable def DPut(H:Hp)(a:Addr)(y v:V)(H':Hp):Prop:=
 (∃kvs k,H a=some (.dK kvs)/\y=kV k/\kvs.length<sizeLine/\H'=upd H a (.dK (V8 kvs k v)))\/
 ∃kvs k b,H a=some (.dT kvs)/\y=.ref b/\H b=some (.tup (k.map kV))/\kvs.length<sizeLine/\H'=upd H a (.dT (V8 kvs k v))
theorem DGet.k{H:Hp}{a:Addr}{kvs:List (Key×V)}{k:Key}(e:H a=some (.dK kvs)):DGet H a (kV k) (N8 kvs k):=.inl ⟨kvs,k,.inl e,rfl,rfl⟩
theorem DPut.k{H:Hp}{a:Addr}{kvs:List (Key×V)}{k:Key}{v:V}(e:H a=some (.dK kvs))(hl:kvs.length<sizeLine):DPut H a (kV k) v (upd H a (.dK (V8 kvs k v))):=.inl ⟨kvs,k,e,rfl,hl,rfl⟩
section
variable{X:Cx}{pins:List (Addr×Obj)}{σ:St}{H:Hp}{s:Shared}{a:Addr}{y v:V}{u r:Value}{o:Option V}{A:Around}{E:Value->Shared->Prop}
theorem Inv.big(I:Inv X pins σ H s):sysModules<s.heap.objs.size:=by
 have h:mainGlobals<s.heap.objs.size:=(I.mod.glob.keeps I.bk).lt
 exact Nat.lt_trans (by decide) h
theorem UX{Q:Value->Shared->Prop}(hu:A.units+1<cLine)(I:Inv X pins σ H s)(g:DGet H a y (some v))(ry:RelV y u)(h:∀w' s',Inv X pins σ H s'->RelV v w'->Q w' s'):
  wpAny (model X.prog X.w) A (getItem (.ref a) u) Q E s:=by
 rcases g with⟨kvs,k,e,ey,l⟩|⟨kvs,k,b,e,ey,eb,l⟩
 ·subst ey
  obtain⟨z,hd,vs,rel,dd⟩:=WK I.hok e
  obtain⟨w',hw,rw'⟩:=RelO.some_of (v:=v) (o:=valueAt vs k) (by rw[l];exact rel.val k)
  exact wpAny_getItem_of (RX ry) dd.mapOf hw (h w' _ (I.tok _) rw')
 ·subst ey
  cases(show u=Value.ref b from ry)
  obtain⟨z,hd,xs,rel,dd⟩:=ZL I.hok e
  obtain⟨w',hw,rw'⟩:=RelO.some_of (v:=v) (o:=(atKey xs k).map (·.2)) (by rw[l];exact rel.val k)
  obtain⟨p,hp,hp2⟩:=Option.map_eq_some_iff.mp hw
  refine wpAny_getItem_heap (tupleKind_room_in1 hu) (PZ I.hok eb) dd hp ?_
  rw[hp2]
  exact h w' _ (I.tok _) rw'
theorem KH{h':Heap}{t':Nat}{ob:HO}(I:Inv X pins σ H s)(mu:Mut (H a))(hs:Heap.SameBut a s.heap h')(he:∃q,h'.get? a=some q)(new:ObjOk X.prog X.w (upd H a ob) h' a ob):
  Inv X pins σ (upd H a ob) {s with heap:=h',toks:=t'}:=
 I.write (x:=a) (e:=a) mu (.inl rfl) (λb q hb z=>(hs.2 b hb).trans z) he new
theorem WO{P:Program}{w:World}{H':Hp}{h':Heap}{kvs:List (Key×V)}{vs:List (Key×Value)}(z:kvs.length<=sizeLine)(hd:(a==sysModules)=false)(rel:KV kvs vs)(dd:h'.DictOf (L7 P w) a vs):
  ObjOk P w H' h' a (.dK kvs):=⟨z,hd,vs,rel,dd⟩
theorem UW{H':Hp}{Q:Unit->Shared->Prop}(hu:A.units+1<cLine)(I:Inv X pins σ H s)(g:DPut H a y v H')(ry:RelV y u)(rv:RelV v r)(h:∀s',Inv X pins σ H' s'->Q () s'):
  wpAny (model X.prog X.w) A (setItem (.ref a) u r) Q E s:=by
 rcases g with⟨kvs,k,e,ey,l,eH⟩|⟨kvs,k,b,e,ey,eb,l,eH⟩
 ·subst ey eH
  obtain⟨z,hd,vs,rel,dd⟩:=bcZ I.hok e
  have hz:vs.length<=sizeLine:=by rw[<-rel.length];exact z
  have hl:(V8 kvs k v).length<=sizeLine:=by have:=T2 kvs k v;omega
  refine wpAny_setItem_pairs (hsz:=hz) (RX ry) dd λh' dd' hs=>h _ ?_
  have he:∃q,h'.get? a=some q:=let⟨q,_,_,hq,_⟩:=dd';⟨q,hq⟩
  exact KH I (by rw[e];exact True.intro) hs he (WO hl hd (rel.put k rv) dd')
 ·subst ey eH
  cases(show u=Value.ref b from ry)
  obtain⟨z,hd,xs,rel,dd⟩:=dqZ I.hok e
  have hz:xs.length<=sizeLine:=by rw[<-Paired.length rel];exact z
  have hl:(V8 kvs k v).length<=sizeLine:=by have:=T2 kvs k v;omega
  refine wpAny_setItem_heap (hsz:=hz) (tupleKind_room_in1 hu) (PZ I.hok eb) dd λh' dd' hs=>h _ ?_
  obtain⟨q,es,ep,hq,h2,h3,h4,_,h5⟩:=dd'
  refine KH I (by rw[e];exact True.intro) hs ⟨q,hq⟩ ⟨hl,hd,_,(rel.put k eb rv).keeps λc ys ec=> ?_,q,es,ep,hq,h2,h3,h4,h5⟩
  rw[B0 (bpZ ec e (λz=>nomatch z))]
  exact ec
variable{kvs:List (Key×V)}{k:Key}
end
noncomputable def dvZ(i:Expr):Prop:=∀ov iv,subscripted i false ov iv=operate [ov,iv] (getItem ov iv)
theorem arZ{prog:Program}{w:World}{A:Around}{E:Value->Shared->Prop}{s:Shared}{env:Env}{value slice:Expr}{pos:Pos}{T id:String}{Q:Value->Shared->Prop}
  (hl:typeLookup (.type T) "__getitem__"=pure (some (.builtin id)))(hs:dvZ slice)
  (h:wpAny (model prog w) A (eval value env) (λo s₁=>wpAny (model prog w) A (eval slice env) (λi s₂=>s₂.TypeIs o T/\wpAny (model prog w) A (getItem o i) Q E s₂) E s₁) E s):
  wpAny (model prog w) A (eval (.Subscript value slice pos) env) Q E s:=by
 refine Subscript_ (wpAny_mono h (λo s₁ h₁=>wpAny_mono h₁ (λi s₂ h₂=> ?_) λ_ _ x=>x) λ_ _ x=>x)
 obtain⟨hT,h₂⟩:=h₂
 unfold subscriptTail
 refine bZ ?_
 rw[getitemInPython_of_ne hT.not_modules]
 refine bZ (wpAny_specialOf hT hl ?_)
 have fin:wpAny (model prog w) A (subscripted slice false o i) (λr s₃=>wpAny (model prog w) A (letTemporaryGo value o r>>=λ_=>pure r) Q E s₃) E s₂:=by
  rw[hs o i]
  exact wpAny_operating (wpAny_mono h₂ (λr s₃ h₃=>bZ (wpAny_letTemporaryGo (pZ h₃))) λ_ _ x=>x)
 first
  |exact pZ (bZ fin)
  |exact bZ (pZ (bZ fin))
  |exact bZ fin
theorem MF{X:Cx}{pins:List (Addr×Obj)}{σ:St}{H:Hp}{s:Shared}{a:Addr}{y:V}{o:Option V}(I:Inv X pins σ H s)(g:DGet H a y o):s.TypeIs (.ref a) "dict":=by
 rcases g with⟨kvs,k,e,_,_⟩|⟨kvs,k,b,e,_,_,_⟩
 ·obtain⟨_,_,vs,_,dd⟩:=WK I.hok e
  exact dd.typeIs
 ·obtain⟨_,_,xs,_,dd⟩:=ZL I.hok e
  exact dd.typeIs
inductive tDGetW (Q:VK) (x y:V) (H2:Hp):Prop
 |mk:∀a v,(x=.ref a)->(DGet H2 a y (some v))->(Q v H2)->tDGetW Q x y H2
noncomputable def XG(td ty:TE):TE:=fun σ H Q=>td σ H λx H1=>ty σ H1 λy H2=>tDGetW Q x y H2
section
variable{X:Cx}{o i e value:Expr}{pos pos' tpos:Pos}{td ty tv:TE}
theorem C7(hu:X.A.units+1<cLine)(ho:PE X o td)(hi:PE X i ty)(hs:dvZ i):PE X (.Subscript o i pos) (XG td ty):=by
 intro pins s σ H Q I h
 refine arZ PySem.F.slot_dict_getitem.lookup hs (thn (ho pins s σ H _ I h) λu s1 ⟨x,H1,I1,rx,q1⟩=>thn (hi pins s1 σ H1 _ I1 q1) λiv s2 ⟨y,H2,I2,ry,a,v,ex,g,q2⟩=> ?_)
 subst ex
 obtain rfl:u=Value.ref a:=rx
 exact⟨MF I2 g,UX hu I2 g ry λw' s3 I3 rw'=>⟨v,H2,I3,rw',q2⟩⟩
end
theorem ME{P:Program}{w:World}{H:Hp}(h:Heap)(hb:sysModules<h.objs.size):ObjOk P w H (h.push {cls:=.type "dict",data:=.dict #[]}) h.objs.size (.dK []):=
 ⟨zero_le _,beq_eq_false_iff_ne.mpr (Ne.symm (ne_of_lt hb)),[],.nil,Heap.DictOf.new h⟩
noncomputable def cDZ:TE:=λ_ H Q=>∀p,H p=none->Q (.ref p) (upd H p (.dK []))
section
variable{X:Cx}{pos:Pos}
theorem YT:PE X (.Dict [] [] pos) cDZ:=λpins s σ H Q I h=>
 wpAny_Dict_empty ⟨.ref s.heap.objs.size,_,I.laid (a:=s.heap.objs.size) (o:=.dK []) (t':=s.toks) (λ_ _ q=>gZ _ q) (le_refl _) (ME s.heap I.big),rfl,h _ (I.hok.fresh (le_refl _))⟩
end
noncomputable def QX:List (TE×TE)->St->Hp->(List (V×V)->Hp->Prop)->Prop
 | [],_,H,Q=>Q [] H
 |(tk,tv)::r,σ,H,Q=>tk σ H λx H1=>tv σ H1 λy H2=>QX r σ H2 λps H3=>Q ((x,y)::ps) H3
noncomputable abbrev VV:List (V×V)->List (Value×Value)->Prop:=Paired λp q=>RelV p.1 q.1/\RelV p.2 q.2
noncomputable def PPs(X:Cx)(pos:Pos)(keys:List (Option Expr))(values:List Expr)(trs:List (TE×TE)):Prop:=
 ∀(pins:List (Addr×Obj)) (s:Shared) (σ:St) (H:Hp) (Q:List (V×V)->Hp->Prop),Inv X pins σ H s->QX trs σ H Q->
  wpAny (model X.prog X.w) X.A (evalPairs (pairTrees keys values X.env pos)) (λvs s'=>∃ps H',Inv X pins σ H' s'/\VV ps vs/\Q ps H') X.xe s
theorem RQ{X:Cx}{pos:Pos}:PPs X pos [] [] []:=λpins s σ H Q I h=>pairTrees_nil_walk ⟨[],H,I,.nil,h⟩
theorem U4{X:Cx}{pos:Pos}{k v:Expr}{ks:List (Option Expr)}{vs:List Expr}{tk tv:TE}{trs:List (TE×TE)}(hk:PE X k tk)(hv:PE X v tv)(hr:PPs X pos ks vs trs):
  PPs X pos (some k::ks) (v::vs) ((tk,tv)::trs):=λpins s σ H Q I h=>
 pairTrees_cons_walk (thn (hk pins s σ H _ I h) λu s1 ⟨x,H1,I1,rx,q1⟩=>thn (hv pins s1 σ H1 _ I1 q1) λw2 s2 ⟨y,H2,I2,ry,q2⟩=>
  thn (hr pins s2 σ H2 _ I2 q2) λws s3 ⟨ps,H3,I3,rel,q3⟩=>⟨(x,y)::ps,H3,I3,.cons ⟨rx,ry⟩ rel,q3⟩)
noncomputable def EQ(kvs more:List (Key×V)):List (Key×V):=more.foldl (λacc kv=>V8 acc kv.1 kv.2) kvs
theorem KV.merge:∀ {more:List (Key×V)} {rs:List (Key×Value)} {kvs:List (Key×V)} {vs:List (Key×Value)},KV more rs->KV kvs vs->KV (EQ kvs more) (merged vs rs):=by
 intro more rs kvs vs r
 unfold KV at r
 induction r generalizing kvs vs with
 |nil=>intro q;exact q
 | @cons p q ps qs h t ih=>
  intro r0
  have e:KV (V8 kvs p.1 p.2) (stored vs q.1 q.2):=by
   have:=r0.put p.1 h.2
   rw[<-h.1];exact this
  exact ih e
theorem Z9:∀(more kvs:List (Key×V)),(EQ kvs more).length<=kvs.length+more.length
 | [],kvs=>by show kvs.length<=kvs.length+0;omega
 |p::r,kvs=>by
  have h1:=Z9 r (V8 kvs p.1 p.2)
  have h2:=T2 kvs p.1 p.2
  show(EQ (V8 kvs p.1 p.2) r).length<=_
  rw[length_cons];omega
theorem FH{P:Program}{w:World}:∀ {kvs:List (Key×V)} {ws:List (Value×Value)},VV (kvs.map λkv=>(kV kv.1,kv.2)) ws->∃rs,Carries (L7 P w) ws rs/\KV kvs rs
 | [],_,r=>by rw[map_nil]at r;cases r;exact⟨[],True.intro,.nil⟩
 |p::kvs,_,r=>by
  rw[map_cons]at r
  cases r with
  | @cons a b as bs h t=>
   obtain⟨rs,c,q⟩:=FH (P:=P) (w:=w) t
   obtain⟨b1,b2⟩:=b
   exact⟨(p.1,b2)::rs,⟨RX h.1,rfl,c⟩,.cons ⟨rfl,h.2⟩ q⟩
noncomputable def cLZ(trs:List (TE×TE)):TE:=fun σ H Q=>∀p,H p=none->QX trs σ (upd H p (.dK [])) λps H2=>H2 p=some (.dK [])/\∃kvs:List (Key×V),ps=kvs.map (λkv=>(kV kv.1,kv.2))/\kvs.length<=15/\Q (.ref p) (upd H2 p (.dK (EQ [] kvs)))
theorem SO{X:Cx}{pos:Pos}{keys:List (Option Expr)}{values:List Expr}{trs:List (TE×TE)}(h:PPs X pos keys values trs)(hall:keys.all (·.isSome)=true)(hl:keys.length=values.length)(h0:keys≠ [])
  (h15:keys.length<=15):PE X (.Dict keys values pos) (cLZ trs):=by
 intro pins s σ H Q I q
 have hn:=I.hok.fresh (le_refl s.heap.objs.size)
 have I1:=I.laid (a:=s.heap.objs.size) (o:=.dK []) (h':=s.heap.push {cls:=.type "dict",data:=.dict #[]}) (t':=s.toks) (λ_ _ q=>gZ _ q) (le_refl _) (ME s.heap I.big)
 refine wpAny_Dict_walk (knd:=L7 X.prog X.w) hall hl h0 h15 (thn (h pins _ σ _ _ I1 (q _ hn)) λws s2 ⟨ps,H2,I2,rel,e,kvs,ep,lk,q2⟩=> ?_)
 subst ep
 obtain⟨rs,c,rk⟩:=FH (P:=X.prog) (w:=X.w) rel
 obtain⟨z,hd,vs0,r0,dd⟩:=bcZ I2.hok e
 cases r0
 refine⟨rs,c,dd,λh' dd' hs=>⟨.ref s.heap.objs.size,_, ?_,rfl,q2⟩⟩
 have hz:(EQ [] kvs).length<=sizeLine:=by
  have h1:=Z9 kvs []
  rw[length_nil]at h1
  rw[sizeLine_eq];omega
 have he:∃q,h'.get? s.heap.objs.size=some q:=let⟨q,_,_,hq,_⟩:=dd';⟨q,hq⟩
 exact KH I2 (by rw[e];exact True.intro) hs he (WO hz hd (rk.merge .nil) dd')
section
variable{X:Cx}{pins:List (Addr×Obj)}{σ:St}{H:Hp}{s:Shared}{a:Addr}{y d:V}{u r:Value}{o:Option V}{A:Around}{E:Value->Shared->Prop}
end
section
variable{X:Cx}{o e f:Expr}{apos cpos:Pos}{td ty tx:TE}
variable{pins:List (Addr×Obj)}{σ:St}{H:Hp}{s:Shared}{a:Addr}{kvs:List (Key×V)}{A:Around}{E:Value->Shared->Prop}
variable{y:V}{u:Value}
noncomputable def dzZ:V->V->V->Hp->(Hp->Prop)->Prop:=λo i v H Q=>∃a H',o=.ref a/\DPut H a i v H'/\Q H'
theorem MN(hu:X.A.units+64<cLine):bAZ X dzZ:=by
 intro pins s σ H o i v ov iv u Q I ro ri rv h
 obtain⟨a,H',rfl,g,q⟩:=h
 cases ro
 exact UW (by omega) I g ri rv λs' I'=>⟨H',I',q⟩
end
end L2
namespace PySem
namespace ZT
section
variable{prog:Program}{w:World}{A:Around}{E:Value->Shared->Prop}{s:Shared}
end
end ZT
end PySem
namespace L2
open PySem PySem.Spec PyProof.Rows
section
variable{X:Cx}{pins:List (Addr×Obj)}{σ:St}{H:Hp}{s:Shared}{a:Addr}{xs ys:List V}{t:Bool}
variable{K:FZ}{elts:List Expr}{kt:Nat}{pt:Pos}
variable{tg:Expr}
end
end L2
namespace PySem
open PyProof.Rows L2
namespace F
end F
section
variable{prog:Program}{w:World}{A:Around}{E:Value->Shared->Prop}{s:Shared}
end
end PySem
namespace L2
open PySem PySem.Spec PyProof.Rows
section
variable{X:Cx}{tg:Expr}
end
end L2
namespace PySem
open PyProof.Rows
namespace F
end F
section
variable{prog:Program}{w:World}{A:Around}{E:Value->Shared->Prop}{s:Shared}
end
end PySem
namespace PySem
open PyProof.Rows
namespace F
end F
section
variable{prog:Program}{w:World}{A:Around}{E:Value->Shared->Prop}{s:Shared}
end
end PySem
namespace PySem
section
variable{prog:Program}{w:World}{A:Around}{E:Value->Shared->Prop}{s:Shared}
end
end PySem
namespace L2
open PySem PySem.Spec PyProof.Rows
section
variable{X:Cx}{K:FZ}{pins:List (Addr×Obj)}{σ:St}{H:Hp}{s:Shared}
end
noncomputable def GX(xs ys:List V):Bool:=(List.range (min xs.length ys.length)).all (λj=>eqV ((xs[j]?).getD .non) ((ys[j]?).getD .non))&&xs.length==ys.length
section
variable{X:Cx}{K:FZ}{pins:List (Addr×Obj)}{σ:St}{H:Hp}{s:Shared}
theorem aLZ{A:Around}{xs ys:List V}{us vs:List Value}(r:Vals xs us)(r2:Vals ys vs)(fx:xs.all T3=true)(fy:ys.all T3=true)(j:Nat)(h1:j<us.toArray.size)(h2:j<vs.toArray.size):
  SeqAt.EqAt A s us.toArray[j] vs.toArray[j] (eqV ((xs[j]?).getD .non) ((ys[j]?).getD .non)):=by
 obtain⟨x,hx,rx⟩:=Q3 r h1
 obtain⟨y,hy,ry⟩:=Q3 r2 h2
 rw[hx,hy]
 exact ZA rx ry (all_eq_true.mp fx x (mem_of_getElem? hx)) (all_eq_true.mp fy y (mem_of_getElem? hy))
end
end L2
namespace PySem
open PyProof.Rows
section
variable{prog:Program}{w:World}{A:Around}{E:Value->Shared->Prop}{s:Shared}
end
end PySem
namespace L2
open PySem PySem.Spec PyProof.Rows
section
variable{X:Cx}
end
end L2
namespace PySem
open AutoSeq1(wpAny_loadPart')
end PySem
namespace L2
open PySem PySem.Spec PyProof.Rows
section
variable{X:Cx}{K:FZ}{tg:Expr}
noncomputable def cYZ(K:FZ)(tl:TE):TI:=fun σ H R=>tl σ H λx H1=>(∃a,x=.ref a/\(∃xs,SqL K H1 a xs)/\R (Itl K a) H1)\/∃a,x=.ref a/\(∃xs,SqT K H1 a xs)/\R (Itt K a) H1
theorem cjZ{l:Expr}{tl:TE}(hl:PE X l tl):PI X tg l (cYZ X.K tl):=by
 intro pins s σ H R I h
 refine thn (hl pins s σ H _ I h) λv s1 ⟨x,H1,I1,r1,q1⟩=> ?_
 rcases q1 with⟨a,e,⟨xs,hq⟩,q⟩|⟨a,e,⟨xs,hq⟩,q⟩
 ·subst e
  cases r1
  obtain⟨its,rv,p,hz⟩:=I1.list hq
  refine wpAny_pyIter_list p.isList ?_
  refine⟨s1.heap.objs.size,[s1.heap.objs.size],_,_,H1,rfl,I1.kept (t':=s1.toks) λb o e=>gZ _ e,HS a _,⟨_,get?_push_size _ rfl,rfl,rfl⟩,λb hb=> ?_,q⟩
  have e:b=s1.heap.objs.size:=by simpa using hb
  subst e
  exact I1.fpOk (le_refl _) (I1.hok.fresh (le_refl _))
 ·subst e
  cases r1
  obtain⟨its,rv,p,hz⟩:=I1.tuple hq
  refine wpAny_pyIter_tuple (show s1.heap.IsTuple a its.toArray from p) ?_
  refine⟨s1.heap.objs.size,[s1.heap.objs.size],_,_,H1,rfl,I1.kept (t':=s1.toks) λb o e=>gZ _ e,FA a _,⟨_,get?_push_size _ rfl,rfl,rfl⟩,λb hb=> ?_,q⟩
  have e:b=s1.heap.objs.size:=by simpa using hb
  subst e
  exact I1.fpOk (le_refl _) (I1.hok.fresh (le_refl _))
theorem XR{l:Expr}{tl:TE}(hl:PE X l tl)(hK:X.K=K:=by rfl):PI X tg l (cYZ K tl):=by subst hK;exact cjZ hl
variable{pins:List (Addr×Obj)}{σ:St}{H:Hp}{s:Shared}
end
end L2
namespace PySem
open PyProof.Rows
section
variable{prog:Program}{w:World}
noncomputable def dd{K:Type}[DecidableEq K](D:List K)(x:K):List K:=if x∈D then D else D++ [x]
variable{A:Around}{E:Value->Shared->Prop}{s:Shared}
end
end PySem
namespace L2
open PySem PySem.Spec PyProof.Rows
section
variable{X:Cx}{K:FZ}
end
end L2
namespace PySem
open PyProof.Rows
section
variable{prog:Program}{w:World}{K:Type}[DecidableEq K]{knd:KeyKind prog w K}{A:Around}{E:Value->Shared->Prop}{s:Shared}
end
section
variable{prog:Program}{w:World}{A:Around}{E:Value->Shared->Prop}{s:Shared}
end
end PySem
namespace L2
open PySem PySem.Spec PyProof.Rows
section
variable{X:Cx}{K:FZ}
end
end L2
namespace PySem
open PyProof.Rows
section
variable{prog:Program}{w:World}{A:Around}{E:Value->Shared->Prop}{s:Shared}
end
end PySem
namespace L2
open PySem PySem.Spec PyProof.Rows
section
variable{X:Cx}{K:FZ}
end
end L2
namespace PySem
open Sem(wp)
open PyProof.Rows
namespace ZT
section
variable{prog:Program}{w:World}{A:Around}{E:Value->Shared->Prop}{s:Shared}
end
end ZT
end PySem
namespace L2
open PySem PySem.Spec PyProof.Rows
section
variable{X:Cx}{K:FZ}{elts:List Expr}{kt:Nat}{pt:Pos}
end
end L2
namespace PySem
open Sem(wp)
end PySem
namespace L2
open PySem PySem.Spec PyProof.Rows
section
variable{M:Model}{A:Around}{E:Value->Shared->Prop}{s:Shared}{base:Heap}{env:Env}{outer l:List Env}{L a:Addr}{C fl:Value}{g:Heap}{H:Hp}{Q:Unit->Shared->Prop}
end
section
variable{P:Program}{w:World}{K:FZ}{mg:Str->Option Value}{base:Heap}{N:List Str}{qual:Str}{scope:Scope}{f:Addr}{cd:Value}{A:Around}{outer:List Env}{s:Shared}{H:Hp}{E:XK}
variable{X:Cx}
variable{k:Nat}{g:Addr}{fd:FuncData}{ps:List Str}{sp:Heap->Sp}{x:Str}{p pos:Pos}{e:Expr}{es:List Expr}{t:TA}{name:Str}{params:Arguments}{body:Expr}{clos:List (Str×Addr)}{pm:Value}{fs:List Str}{js:List Nat}
variable{cl:List (Str×Addr)}
end
noncomputable def Dl(K:FZ)(H:Hp):Nat->V->V->Prop
 |0,x,y=>P0 x=true/\x=y
 |n+1,x,y=>(P0 x=true/\x=y)\/∃a b xs ys,x=.ref a/\y=.ref b/\((SqT K H a xs/\SqT K H b ys)\/(SqL K H a xs/\SqL K H b ys))/\xs.length=ys.length/\∀(j:Nat) u v,xs[j]? =some u->ys[j]? =some v->Dl K H n u v
section
variable{X:Cx}{K:FZ}{pins:List (Addr×Obj)}{σ:St}{H:Hp}{s:Shared}
theorem ZD(I:Inv X pins σ H s){A:Around}{a b:Addr}{xs ys:List V}(hu:A.units<cLine)(ha:SqL X.K H a xs)(hb:SqL X.K H b ys)(hl:xs.length=ys.length)
  (he:∀(j:Nat) x y u v,xs[j]? =some x->ys[j]? =some y->RelV x u->RelV y v->SeqAt.EqAt A.in1 s u v true):SeqAt.RcAt A s (.ref a) (.ref b) true:=by
 obtain⟨its,r,pl,_⟩:=I.list ha
 obtain⟨its2,r2,pl2,_⟩:=I.list hb
 have hl2:its.length=its2.length:=by rw[<-r.length,<-r2.length];exact hl
 have h:=SeqAt.RcAt.lists (A:=A) (s:=s) (e:=λ_=>true) pl.isList pl2.isList (by simpa using hl2) hu (λj h1 h2=>by
  obtain⟨x,hx,rx⟩:=Q3 r h1
  obtain⟨y,hy,ry⟩:=Q3 r2 h2
  exact he j x y _ _ hx hy rx ry)
 have e:((List.range its.toArray.size).all λ_=>true)=true:=by simp
 rw[e]at h
 exact h
theorem aTZ(I:Inv X pins σ H s)(n:Nat):∀(A:Around) (x y:V) (u v:Value),A.units+n<cLine->Dl X.K H n x y->RelV x u->RelV y v->SeqAt.EqAt A s u v true:=by
 induction n with
 |zero=>
  intro A x y u v _ h rx ry
  obtain⟨hp,rfl⟩:=h
  exact CT rx ry hp
 |succ n ih=>
  intro A x y u v hu h rx ry
  rcases h with⟨hp,rfl⟩|⟨a,b,xs,ys,rfl,rfl,hab,hl,hd⟩
  ·exact CT rx ry hp
  ·cases rx;cases ry
   by_cases e:a=b
   ·subst e;exact SeqAt.EqAt.same _
   ·have h1:A.units<cLine:=lt_of_le_of_lt (le_add_right _ _) hu
    have h2:A.in1.units+n<cLine:=by
     show A.units+1+n<cLine
     rw[Nat.add_assoc,Nat.add_comm 1 n];exact hu
    rcases hab with⟨ha,hb⟩|⟨ha,hb⟩
    ·exact SeqAt.EqAt.of_refs e (aPZ I h1 ha hb hl λj x y u v hx hy rx ry=>ih A.in1 x y u v h2 (hd j x y hx hy) rx ry)
    ·exact SeqAt.EqAt.of_refs e (ZD I h1 ha hb hl λj x y u v hx hy rx ry=>ih A.in1 x y u v h2 (hd j x y hx hy) rx ry)
end
theorem ixT{K:FZ}{w:World}{H:Hp}{Q:VK}{a:Addr}{xs:List V}{i:Int}{v:V}(h:H a=some (.tup xs))(e:atI xs i=some v)(q:Q v H):rIxL K (.ref a) (.int i) H Q\/rIxT K (.ref a) (.int i) H Q\/rIxS (.ref a) (.int i) H Q\/rIxTop w K (.ref a) (.int i) H Q:=.inr (.inl ⟨a,xs,i,v,rfl,rfl,SqT.of h,e,q⟩)
theorem ixL{K:FZ}{w:World}{H:Hp}{Q:VK}{a:Addr}{xs:List V}{i:Int}{v:V}(h:H a=some (.lst xs))(e:atI xs i=some v)(q:Q v H):rIxL K (.ref a) (.int i) H Q\/rIxT K (.ref a) (.int i) H Q\/rIxS (.ref a) (.int i) H Q\/rIxTop w K (.ref a) (.int i) H Q:=.inl ⟨a,xs,i,v,rfl,rfl,SqL.of h,e,q⟩
theorem fS{N P:List Str}{sc:Scope}(a:sc.kind=.function:=by rfl)(b:sc.isCoroutine=false:=by rfl)(c:sc.isGenerator=false:=by rfl)(d:N.Nodup:=by decide +kernel)(e:N.take P.length=P:=by rfl)(f:∀x∈P,sc.names.lookup x=some .local\/sc.names.lookup x=some .cell:=by decide +kernel)(g:∀y∈sc.names,y.2≠ .free:=by decide +kernel):FnScope N P sc:=⟨a,b,c,d,e,f,g⟩
theorem cS{N:List Str}{sc scope:Scope}{x:Str}{caps:List Nat}{ns:List Str}(a:∀y∈scope.names,y.2≠ .cell:=by decide +kernel)(b:scope.kind=.function:=by rfl)(c:∀y∈scope.names,y.2=.local->scope.names.lookup y.1=some .local:=by decide +kernel)(d:scope.names.lookup x=some .local:=by rfl)(e:∀y∈scope.names,y.2=.free->sc.names.lookup y.1=some .cell\/sc.names.lookup y.1=some .free:=by decide +kernel)(f:caps.map (λj=>N[j]?)=ns.map some:=by rfl)(g:∀y∈ns,scope.names.lookup y=some .free:=by decide +kernel)(h:(x::ns).Nodup:=by decide +kernel):CompScope N sc scope x caps ns:=⟨a,b,c,d,e,f,g,h⟩
section
variable{X:Cx}{a b:Expr}{ta tb:TE}{pos:Pos}
theorem ixE(K:FZ)(w:World)(ha:PE X a ta)(hb:PE X b tb)(hs:SY b:=by exact λ_ _=>rfl)(hK:X.K=K:=by rfl)(hw:X.w=w:=by rfl):PE X (.Subscript a b pos) (tOp (λx y H Q=>rIxL K x y H Q\/rIxT K x y H Q\/rIxS x y H Q\/rIxTop w K x y H Q) ta tb):=FE (kIx hK hw) ha hb hs
end
noncomputable def Cn(P:Program)(w:World)(K:FZ)(mg:Str->Option Value)(base:Heap)(CX:CXT)(n:Nat)(x:Str)(ps:List Str)(sp:Sp):Prop:=∃f d,FnOk P w K mg base CX n f d ps sp/\Binds K d ps []/\kZ K (.ref f)=true/\mg x=some (.ref f)
end L2
noncomputable abbrev q1L:List PySem.Str:=["_law_blocks","_law_frames","_law_heap_here","_law_counted","_law_most"]
noncomputable abbrev q3L:List PySem.Str:=["_law_cell","_law_many","_law_main"]
noncomputable abbrev q4L:List PySem.Str:=["_law_cell"]
noncomputable abbrev q6L:List PySem.Str:=["_law_cells","_law_heads_here","_law_b"]
noncomputable abbrev q9L:List PySem.Str:=["_law_found","_law_due_here"]
noncomputable abbrev cyZ:List PySem.Str:=["_law_frames","_law_heap_here"]
noncomputable abbrev bDZ:List PySem.Str:=["_law_machine","_law_bits"]
noncomputable abbrev cwZ:List PySem.Str:=["_law_machine","_law_blocks","_law_most","_law_copies","_law_bits"]
noncomputable abbrev cvZ:List PySem.Str:=["_law_machine","_law_k"]
noncomputable abbrev awZ:List PySem.Str:=["_law_script","_law_k"]
noncomputable abbrev VS:List PySem.Str:=["_law_script"]
noncomputable abbrev ZE:List PySem.Str:=["_law_state","_law_kind","_law_cell"]
noncomputable abbrev QF:List PySem.Str:=["_law_state","_law_kinds","_law_cell"]
noncomputable abbrev cqZ:List PySem.Str:=["_law_state","_law_more","_law_heads_here"]
noncomputable abbrev DU:List PySem.Str:=["_law_state","_law_more"]
noncomputable abbrev PN:List PySem.Str:=["_law_thing"]
noncomputable abbrev aHZ:List PySem.Str:=["blocks","cells","frame","row"]
noncomputable abbrev aOZ:List PySem.Str:=["blocks","number","values"]
noncomputable abbrev QN:List PySem.Str:=["cells","frame","row"]
noncomputable abbrev bKZ:List PySem.Str:=["cells","frame","word"]
noncomputable abbrev KJ:List PySem.Str:=["cells","value"]
noncomputable abbrev cpZ:List PySem.Str:=["frame","many_rows"]
noncomputable abbrev MS:List PySem.Str:=["frame","many_taken","values"]
noncomputable abbrev WC:List PySem.Str:=["frame","row"]
noncomputable abbrev czZ:List PySem.Str:=["frame","slot","value"]
noncomputable abbrev aRZ:List PySem.Str:=["root","parts_in","made"]
noncomputable abbrev aUZ:List PySem.Str:=["self","blocks","main","numbers","most"]
noncomputable abbrev WP:List PySem.Str:=["self","cell"]
noncomputable abbrev aYZ:List PySem.Str:=["self","frame","row"]
noncomputable abbrev VY:List PySem.Str:=["self","outcome"]
noncomputable abbrev aVZ:List PySem.Str:=["self","told"]
noncomputable abbrev GZ:List PySem.Str:=["self","value"]
noncomputable abbrev J1:List PySem.Str:=["self"]
noncomputable abbrev VZ:List PySem.Str:=["sign","a","b"]
noncomputable abbrev aZZ:List PySem.Str:=["stack","many"]
noncomputable abbrev WF:List PySem.Str:=["value","heads"]
namespace TM
open PySem PyProof.Rows
section
variable{prog:Program}{w:World}{A:Around}{E:Value->Shared->Prop}{s:Shared}
end
end TM
namespace L2
open PySem PySem.Spec PyProof.Rows
section
variable{X:Cx}{K:FZ}
end
end L2
namespace L2
open PySem PyProof.Rows
section
variable{X:Cx}
theorem SN:OpR X (compareOp .IsNot) (λx y H Q=>∃i j,x=.bl i/\y=.bl j/\Q (.bl (!(i==j))) H):=by
 intro pins s σ H x y v u Q I rx ry h
 obtain⟨i,j,rfl,rfl,q⟩:=h
 cases rx
 cases ry
 refine wpAny_isNot_plain (by cases i<;>cases j<;>rfl) (E6 I q ?_)
 cases i<;>cases j<;>rfl
end
end L2
namespace L2
open PySem PySem.Spec PyProof.Rows
section
variable{X:Cx}{K:FZ}
noncomputable def a8Z(K:FZ):R2:=λx y H Q=>∃a b xs ys,x=.ref a/\y=.ref b/\SqL K H a xs/\SqL K H b ys/\xs.all T3=true/\ys.all T3=true/\Q (.bl (!GX xs ys)) H
theorem azZ(hu:X.A.units<cLine):OpR X (compareOp .NotEq) (a8Z X.K):=by
 intro pins s σ H x y v u Q I rx ry h
 obtain⟨a,b,xs,ys,rfl,rfl,ha,hb,fx,fy,q⟩:=h
 cases rx;cases ry
 obtain⟨its,r,pl,_⟩:=I.list ha
 obtain⟨its2,r2,pl2,_⟩:=I.list hb
 have l1:=r.length
 have l2:=r2.length
 by_cases hl:xs.length=ys.length
 ·have hl2:its.length=its2.length:=by rw[<-l1,<-l2];exact hl
  refine SeqAt.RcNeAt.lists (e:=λj=>eqV ((xs[j]?).getD .non) ((ys[j]?).getD .non)) pl.isList pl2.isList (by simpa using hl2) hu (λj h1 h2=>aLZ r r2 fx fy j h1 h2) X.prog X.w X.xe _ ⟨.bl (!GX xs ys),H,I, ?_,q⟩
  show Value.bool _=Value.bool _
  unfold GX
  rw[<-hl,Nat.min_self,beq_self_eq_true,Bool.and_true]
  simp only[size_toArray,l1]
 ·have hl2:its.length≠its2.length:=by rw[<-l1,<-l2];exact hl
  refine SeqAt.RcNeAt.lists_lengths pl.isList pl2.isList (by simpa using hl2) hu X.prog X.w X.xe _ ⟨.bl (!GX xs ys),H,I, ?_,q⟩
  show Value.bool _=Value.bool _
  unfold GX
  rw[beq_false_of_ne hl,Bool.and_false]
  rfl
theorem boZ(hu:X.A.units<cLine)(hK:X.K=K:=by rfl):OpR X (compareOp .NotEq) (a8Z K):=by subst hK;exact azZ hu
theorem FO{as bs:List Str}:GX (as.map V.str) (bs.map V.str)=decide (as=bs):=by
 unfold GX
 rw[length_map,length_map]
 by_cases h:as=bs
 ·subst h
  rw[decide_eq_true rfl,beq_self_eq_true,Bool.and_true,all_eq_true]
  intro j hj
  rw[mem_range,Nat.min_self]at hj
  rw[getElem?_map,List.getElem?_eq_getElem hj]
  show eqV (.str _) (.str _)=true
  simp[eqV]
 ·rw[decide_eq_false h,Bool.and_eq_false_iff]
  by_cases hl:as.length=bs.length
  ·refine .inl ?_
   rw[<-Bool.not_eq_true]
   intro ha
   rw[all_eq_true]at ha
   refine h (List.ext_getElem hl λj h1 h2=> ?_)
   have:=ha j (mem_range.mpr (by omega))
   rw[getElem?_map,getElem?_map,List.getElem?_eq_getElem h1,List.getElem?_eq_getElem h2]at this
   have e:eqV (.str as[j]) (.str bs[j])=true:=this
   simpa [eqV]using e
  ·exact .inr (beq_false_of_ne hl)
theorem HZ{as:List Str}:(as.map V.str).all T3=true:=by
 rw[all_eq_true]
 intro x hx
 obtain⟨s,_,rfl⟩:=mem_map.mp hx
 rfl
end
end L2
namespace L2
open PySem PySem.Spec PyProof PyProof.Rows
section
variable{prog:Program}{w:World}{A:Around}{E:Value->Shared->Prop}
theorem cZZ{p a:Addr}{zs:Array Value}(ne:a≠p):∀(m k:Nat) (u:Shared) (R:List Value->Shared->Prop),u.heap.IsListIter p a k->u.heap.IsList a zs->k+m<=zs.size->
  (∀g,g.IsListIter p a (k+m)->Heap.SameBut p u.heap g->R ((zs.toList.drop k).take m) {u with heap:=g})->wpAny (model prog w) A (draw (.ref p) m) R E u:=by
 intro m
 induction m with
 |zero=>
  intro k u R h1 _ _ hR
  exact pZ (by simpa using hR u.heap h1 (Heap.SameBut.refl ..))
 |succ m ih=>
  intro k u R h1 h2 hle hR
  have hk:k<zs.size:=by omega
  refine bZ (wpAny_pyNext_list_item h1 h2 (x:=zs[k]) (by simp[hk]) λg1 i1 e1=> ?_)
  refine bZ (wpAny_holding (ih (k+1) _ _ i1 (h2.extBut e1.extBut ne) (by omega) λg2 i2 e2=>pZ ?_))
  have ed:zs.toList.drop k=zs[k]::zs.toList.drop (k+1):=by simp[List.drop_eq_getElem_cons,hk]
  have fin:=hR g2 (by rw[show k+(m+1)=k+1+m by omega];exact i2) (e1.trans e2)
  rw[ed,List.take_succ_cons]at fin
  exact fin
theorem aKZ{a:Addr}{zs:Array Value}{u:Shared}{ts:List (Bool×(Value->Sem Unit))}{R:Unit->Shared->Prop}(hh:A.handled=none)(h:u.heap.IsList a zs)(hn:ts.length=zs.size)(hs:ts.findIdx? (·.1)=none)
  (k:∀g,Heap.ExtBut u.heap.objs.size u.heap g->wpAny (model prog w) A (assignInOrder (ts.map (·.2)) zs.toList) R E {u with heap:=g}):wpAny (model prog w) A (unpack (.ref a) ts) R E u:=by
 have na:a≠u.heap.objs.size:=by
  obtain⟨o,e,_⟩:=h
  exact ne_of_lt (lt_size e)
 unfold unpack
 rw[hn,hs]
 refine bZ (wpAny_holding ?_)
 unfold unpackItems
 refine bZ ?_
 unfold notIterableAtAll
 refine bZ (wpAny_specialOf h.typeIs slot_list_iter.lookup (pZ ?_))
 simp only[Bool.false_eq_true,if_false]
 refine bZ (wpAny_holding (wpAny_pyIter_list h ?_))
 refine bZ (wpAny_holding (cZZ na zs.size 0 _ _ ⟨_,get?_push_size _ rfl,rfl,rfl⟩ (h.push _) (by omega) λg1 i1 e1=> ?_))
 have all:List.take zs.size (List.drop 0 zs.toList)=zs.toList:=by rw[drop_zero];exact take_of_length_le (by simp)
 rw[all,if_neg (by simp)]
 refine bZ (wpAny_holding (wpAny_pyNext_list_end hh i1 ((h.push _).extBut e1.extBut na) (by simp) λg2 e2=> ?_))
 simp only[Option.isSome_none,Bool.false_eq_true,if_false]
 exact pZ (k g2 λb o hb e=>e2 b o hb (e1.extBut b o hb (gZ _ e)))
variable{X:Cx}{pos:Pos}
noncomputable def dMZ(K:FZ)(n:Nat)(t:TGs):TG:=λv σ H Q=>∃a xs,v=.ref a/\SqL K H a xs/\xs.length=n/\t xs σ H Q
theorem csZ{es:List Expr}{j:Nat}{t:TGs}{n:Nat}(hc:X.calm=true)(h:PGs X es t)(hn:(assignEach es X.env).length=n:=by rfl)(hst:(assignEach es X.env).findIdx? (·.1)=none:=by rfl):PG X (.Tuple es j pos) (dMZ X.K n t):=by
 intro pins s σ H v u Q I r hw
 obtain⟨a,xs,e1,hq,hl,hw⟩:=hw
 subst e1
 cases r
 obtain⟨its,rv,⟨o,m,e,hcl,hdd,hda⟩,hz⟩:=I.list hq
 rw[assign_Tuple]
 refine bZ (wpAny_standAt (aKZ (I.ok.hd hc) (zs:=its.toArray) ⟨o,e,hcl,m,hda⟩ (by simp[hn,<-hl,rv.length]) hst λg hx=> ?_))
 have I1:Inv X pins σ H {s with heap:=g}:=I.kept (t':=s.toks) λb o e=>hx b o (ne_of_lt (lt_size e)) e
 exact h pins _ σ H xs _ Q I1 (by simpa using rv) hw
end
end L2
namespace L2
open PySem PySem.Spec PyProof.Rows
section
variable{X:Cx}{K:FZ}
noncomputable def baZ(K:FZ):R2:=λx y H Q=>∃a b xs ys n,x=.ref a/\y=.ref b/\SqL K H a xs/\SqL K H b ys/\xs.length=ys.length/\n<=50/\(∀(j:Nat) u v,xs[j]? =some u->ys[j]? =some v->Dl K H n u v)/\Q (.bl false) H
theorem asZ(hu:X.A.units+64<cLine):OpR X (compareOp .NotEq) (baZ X.K):=by
 intro pins s σ H x y v u Q I rx ry h
 obtain⟨a,b,xs,ys,n,rfl,rfl,ha,hb,hl,hn,hd,q⟩:=h
 cases rx;cases ry
 obtain⟨its,r,pl,_⟩:=I.list ha
 obtain⟨its2,r2,pl2,_⟩:=I.list hb
 have hl2:its.length=its2.length:=by rw[<-r.length,<-r2.length];exact hl
 have h2:X.A.in1.units+n<cLine:=by
  show X.A.units+1+n<cLine
  exact lt_of_le_of_lt (by omega) hu
 refine SeqAt.RcNeAt.lists (e:=λ_=>true) pl.isList pl2.isList (by simpa using hl2) (lt_of_le_of_lt (le_add_right _ _) hu) (λj h1 h2'=> ?_) X.prog X.w X.xe _ ⟨.bl false,H,I, ?_,q⟩
 ·obtain⟨x,hx,rx⟩:=Q3 r h1
  obtain⟨y,hy,ry⟩:=Q3 r2 h2'
  exact aTZ I n X.A.in1 x y _ _ h2 (hd j x y hx hy) rx ry
 ·have:((List.range its.toArray.size).all λ_=>true)=true:=by simp
  rw[this];rfl
theorem duZ(hu:X.A.units+64<cLine)(hK:X.K=K:=by rfl):OpR X (compareOp .NotEq) (baZ K):=by subst hK;exact asZ hu
end
end L2
namespace BV
open PySem L2
noncomputable abbrev AS:=Addr->Prop
noncomputable def Kp(S:AS)(H H':Hp):Prop:=(∀b xs,H b=some (.tup xs)->H' b=some (.tup xs))/\∀b o,H b=some o->¬S b->H' b=some o
theorem Kp.trans{S:AS}{H H1 H2:Hp}(a:Kp S H H1)(b:Kp S H1 H2):Kp S H H2:=⟨λc xs h=>b.1 c xs (a.1 c xs h),λc xs h n=>b.2 c xs (a.2 c xs h n) n⟩
theorem Kp.of{S:AS}{H H':Hp}(h:Same H H'):Kp S H H':=⟨λb o q=>h b _ q,λb o q _=>h b o q⟩
theorem Kp.upd{S:AS}{H:Hp}{p:Addr}{xs:List V}(h:S p)(hp:H p=some (.lst xs))(o:HO):Kp S H (upd H p o):=⟨λb u q=>by
 rw[B0 (bpZ q hp (by intro z;cases z))];exact q,λb u q n=>by
 have e:b≠p:=λe=>n (by rw[e];exact h)
 rw[B0 e];exact q⟩
theorem Kp.tups{S:AS}{H H':Hp}(h:Kp S H H'){b:Addr}{xs:List V}(q:H b=some (.tup xs)):H' b=some (.tup xs):=h.1 b xs q
noncomputable def Wd(H:Hp)(S S':AS):Prop:=∀a,S' a->S a\/H a=none
theorem A3{H:Hp}{p:Addr}(h:H p=none)(o:HO):Same H (upd H p o):=λb u q=>by rw[B0 (C6 q h)];exact q
structure Tr where
 T:Type
 kids:T->List T
 size:T->Nat
 val:AS->Hp->T->V->Prop
 res:AS->Hp->T->V->Prop
 hsz:∀t,size t=1+((kids t).map size).sum
 vm:∀ {S H H' t v},Kp S H H'->val S H t v->val S H' t v
 rm:∀ {S H H' t v},Kp S H H'->res S H t v->res S H' t v
 vw:∀ {S S' H t v},Wd H S S'->val S H t v->val S' H t v
 rw':∀ {S S' H t v},Wd H S S'->res S H t v->res S' H t v
inductive All2 {α β:Type} (R:α->β->Prop):List α->List β->Prop where
 |nil:All2 R [] []
 |cons {a b as bs}:R a b->All2 R as bs->All2 R (a::as) (b::bs)
namespace All2
variable{α β:Type}{R S:α->β->Prop}
theorem imp{as:List α}{bs:List β}(h:All2 R as bs)(f:∀a b,R a b->S a b):All2 S as bs:=by
 induction h with
 |nil=>exact .nil
 |cons r _ ih=>exact .cons (f _ _ r) ih
theorem app{as as':List α}{bs bs':List β}(h:All2 R as bs)(h':All2 R as' bs'):All2 R (as++as') (bs++bs'):=by
 induction h with
 |nil=>exact h'
 |cons r _ ih=>exact .cons r ih
theorem rev{as:List α}{bs:List β}(h:All2 R as bs):All2 R as.reverse bs.reverse:=by
 induction h with
 |nil=>exact .nil
 |cons r _ ih=>rw[reverse_cons,reverse_cons];exact ih.app (.cons r .nil)
theorem len{as:List α}{bs:List β}(h:All2 R as bs):as.length=bs.length:=by
 induction h with
 |nil=>rfl
 |cons _ _ ih=>simp only[length_cons,ih]
theorem get{as:List α}{bs:List β}(h:All2 R as bs):∀ {i:Nat} {b:β},bs[i]? =some b->∃a,as[i]? =some a/\R a b:=by
 induction h with
 |nil=>intro i b e;simp at e
 | @cons a b as bs r _ ih=>
  intro i c e
  cases i with
  |zero=>simp at e;subst e;exact⟨a,rfl,r⟩
  |succ i=>exact ih (by simpa using e)
theorem get'{as:List α}{bs:List β}(h:All2 R as bs):∀ {i:Nat} {a:α},as[i]? =some a->∃b,bs[i]? =some b/\R a b:=by
 induction h with
 |nil=>intro i b e;simp at e
 | @cons a b as bs r _ ih=>
  intro i c e
  cases i with
  |zero=>simp at e;subst e;exact⟨b,rfl,r⟩
  |succ i=>exact ih (by simpa using e)
theorem split{as as':List α}:∀ {bs:List β},All2 R (as++as') bs->∃b1 b2,bs=b1++b2/\All2 R as b1/\All2 R as' b2:=by
 induction as with
 |nil=>intro bs h;exact⟨[],bs,rfl,.nil,h⟩
 |cons a as ih=>
  intro bs h
  cases h with
  |cons r h=>
   obtain⟨b1,b2,rfl,h1,h2⟩:=ih h
   exact⟨_::b1,b2,rfl,.cons r h1,h2⟩
end All2
inductive Reach (D:Tr) (t0:D.T):List D.T->List D.T->Prop where
 |start:Reach D t0 [] [t0]
 |step {A:List D.T} {t:D.T} {r:List D.T}:Reach D t0 A (t::r)->Reach D t0 (A++ [t]) (D.kids t++r)
theorem Reach.back{D:Tr}{t0 t:D.T}{A W:List D.T}(h:Reach D t0 (A++ [t]) W):∃r,W=D.kids t++r/\Reach D t0 A (t::r):=by
 generalize e:A++ [t]=B at h
 cases h with
 |start=>simp at e
 |step h=>
  have:=List.append_inj' e rfl
  obtain⟨rfl,e2⟩:=this
  cases e2
  exact⟨_,rfl,h⟩
theorem Reach.first{D:Tr}{t0:D.T}{W:List D.T}(h:Reach D t0 [] W):W=[t0]:=by
 generalize e:([]:List D.T)=B at h
 cases h with
 |start=>rfl
 |step h=>simp at e
theorem Reach.size{D:Tr}{t0:D.T}{A W:List D.T}(h:Reach D t0 A W):A.length+(W.map D.size).sum=D.size t0:=by
 induction h with
 |start=>simp
 | @step A t r _ ih=>
  simp only[length_append,length_cons,length_nil,map_append,sum_append,map_cons,sum_cons]at ih⊢
  have:=D.hsz t
  omega
theorem Tr.pos(D:Tr)(t:D.T):1<=D.size t:=by have:=D.hsz t;omega
theorem Tr.len_le(D:Tr):∀W:List D.T,W.length<=(W.map D.size).sum
 | []=>le_refl _
 |t::r=>by have:=D.pos t;have:=D.len_le r;simp only[length_cons,map_cons,sum_cons];omega
theorem Tr.kids_le(D:Tr)(t:D.T):(D.kids t).length<=D.size t:=by have:=D.len_le (D.kids t);have:=D.hsz t;omega
noncomputable def MetAt(D:Tr)(S:AS)(H:Hp)(t:D.T)(x:V):Prop:=∃p v,x=.ref p/\H p=some (.tup [v,.int ((D.kids t).length:Nat)])/\D.val S H t v
theorem MetAt.mono{D:Tr}{S:AS}{H H':Hp}(m:Kp S H H'){t:D.T}{x:V}(h:MetAt D S H t x):MetAt D S H' t x:=by
 obtain⟨p,v,e,hp,hv⟩:=h
 exact⟨p,v,e,m.tups hp,D.vm m hv⟩
theorem MetAt.wide{D:Tr}{S S':AS}{H:Hp}(m:Wd H S S'){t:D.T}{x:V}(h:MetAt D S H t x):MetAt D S' H t x:=by
 obtain⟨p,v,e,hp,hv⟩:=h
 exact⟨p,v,e,hp,D.vw m hv⟩
inductive spPW (D:Tr) (vs:List V) (H:Hp) (Q:VK):Prop
 |mk:∀S t v,(vs=[v])->(D.val S H t v)->(D.size t<=400000)->(∀r H' ps,Same H H'->H r=none->H' r=some (.lst ps)->All2 (D.val S H') (D.kids t) ps->Q (.ref r) H')->spPW D vs H Q
noncomputable def spP(D:Tr):Sp:=λvs H Q _=>spPW D vs H Q
end BV
namespace BV
open PySem L2
theorem cmZ{H:Hp}{a:Addr}{o:HO}(h:H a=some o):upd H a o=H:=by
 funext b
 unfold upd
 split
 ·rename_i e;rw[e,h]
 ·rfl
end BV
namespace CL
open PySem L2 BV
noncomputable def Z6:V->Bool
 | .int _| .bl _| .str _| .non=>true
 |_=>false
theorem sc_plain{x:V}(h:Z6 x=true):P0 x=true:=by cases x<;>first|rfl|(cases h;done)
theorem ayZ{x:V}(h:Z6 x=true):cBZ x x=true:=by cases x<;>first|rfl|(cases h;done)
noncomputable def Mo(H H':Hp):Prop:=∀b xs,H b=some (.tup xs)->H' b=some (.tup xs)
noncomputable def Bt(a:Addr)(H H':Hp):Prop:=∀b o,H b=some o->b≠a->H' b=some o
theorem Bt.of{a:Addr}{H H':Hp}(h:Same H H'):Bt a H H':=λb o q _=>h b o q
theorem Bt.trans{a:Addr}{H H1 H2:Hp}(h:Bt a H H1)(h':Bt a H1 H2):Bt a H H2:=λb o q n=>h' b o (h b o q n) n
theorem Bt.upd{a:Addr}{H:Hp}(o:HO):Bt a H (upd H a o):=λb u q n=>by rw[B0 n];exact q
theorem Bt.tups{a:Addr}{H H':Hp}{us:List V}(h:Bt a H H')(ha:H a=some (.lst us)):Mo H H':=λb xs q=>h b _ q λe=>by subst e;rw[ha]at q;cases q
theorem B6{H H':Hp}(s:Same H H'):Mo H H':=λb xs e=>s _ _ e
theorem CF:1<=sizeLine:=by decide
theorem P9:2<=sizeLine:=by decide
theorem XC:3<=sizeLine:=by decide
theorem QM{K:FZ}:kitOne K (.type "tuple") (.type "tuple")=some true:=rfl
theorem XE{K:FZ}:kitOne K (.type "tuple") (.type "list")=some false:=by rfl
theorem KB{K:FZ}:kitOne K (.type "list") (.type "list")=some true:=by rfl
theorem bXZ{K:FZ}:kitOne K (.type "list") (.type "tuple")=some false:=by rfl
theorem diZ{K:FZ}:kitAny K (.type "tuple") [.type "list",.type "tuple"]=some true:=by rfl
theorem daZ{K:FZ}:kitAny K (.type "list") [.type "list",.type "tuple"]=some true:=by rfl
structure ScT (K:FZ) (t:Value):Prop where
 li:kitOne K t (.type "list")=some false
 tu:kitOne K t (.type "tuple")=some false
 bo:kitAny K t [.type "list",.type "tuple"]=some false
 bl:∃b,kitOne K t (.type "bool")=some b
 st:∃b,kitOne K t (.type "str")=some b
 nt:∃b,kitOne K t (.type "int")=some b
theorem NF{K:FZ}{H:Hp}{x:V}(h:Z6 x=true):∃t,TyOf K H x t/\ScT K t:=by
 cases x with
 |int i=>exact⟨_,.int i,by rfl,by rfl,by rfl,⟨_,by rfl⟩,⟨_,by rfl⟩,⟨_,by rfl⟩⟩
 |bl i=>exact⟨_,.bl i,by rfl,by rfl,by rfl,⟨_,by rfl⟩,⟨_,by rfl⟩,⟨_,by rfl⟩⟩
 |str i=>exact⟨_,.str i,by rfl,by rfl,by rfl,⟨_,by rfl⟩,⟨_,by rfl⟩,⟨_,by rfl⟩⟩
 |non=>exact⟨_,.non,by rfl,by rfl,by rfl,⟨_,by rfl⟩,⟨_,by rfl⟩,⟨_,by rfl⟩⟩
 |_=>cases h
end CL
namespace NM
open PySem L2
seal PE PT PW PA PS PSs PTs PI PG PGs PO
noncomputable def top(i:Nat):Stmt:=PySem.Challenge.pw_speakmill_k65_each_row.main.body.getD i (.Pass ⟨0,0,0,0⟩)
noncomputable abbrev s_two_told:Stmt:=top 12
noncomputable abbrev s_quotient_told:Stmt:=top 13
noncomputable abbrev s_outcome:Stmt:=top 14
noncomputable abbrev s_bounded:Stmt:=top 15
noncomputable abbrev QG:List Str:=["sign","a","b"]
theorem sc_two_told:FnScope QG VZ (A9 s_two_told):=fS
noncomputable abbrev DV:List Str:=["a","b"]
theorem sc_quotient_told:FnScope DV ["a","b"] (A9 s_quotient_told):=fS
noncomputable abbrev VD:List Str:=["sign","a","b"]
theorem sc_outcome:FnScope VD VZ (A9 s_outcome):=fS
noncomputable abbrev WB:List Str:=["number"]
theorem sc_bounded:FnScope WB ["number"] (A9 s_bounded):=fS
structure NoG (mg:Str->Option Value):Prop where
 len_:mg "len"=none
 min_:mg "min"=none
 abs_:mg "abs"=none
 isinstance_:mg "isinstance"=none
 tuple_:mg "tuple"=none
 int_:mg "int"=none
 bool_:mg "bool"=none
theorem A3{H:Hp}{p:Addr}(h:H p=none)(o:HO):Same H (upd H p o):=λb u q=>by rw[B0 (C6 q h)];exact q
theorem ifT{c A B:Prop}[Decidable c](h:c)(a:A):if c then A else B:=by rw[if_pos h];exact a
theorem ifF{c A B:Prop}[Decidable c](h:¬c)(b:B):if c then A else B:=by rw[if_neg h];exact b
noncomputable abbrev GR:Int:=10000000000000000000000000000000000000000
noncomputable def bnd(n:Int):List V:=if n>GR\/n< -GR then [.str "refused",.str "great"]else [.str "value",.int n]
noncomputable def quo(a b:Int):List V:=if b=0 then [.str "refused",.str "nought"]else [.str "value",.int (a.fdiv b)]
theorem P9:(2:Nat)<=sizeLine:=by decide
section
variable{P:Program}{w:World}{K:FZ}{mg:Str->Option Value}{base:Heap}{f:Addr}{fd:FuncData}{DN UL TW:Addr}{DR UH TZ:FuncData}{tG:Tok}
inductive spQuoW(vs:List V)(H:Hp)(Q:VK):Prop
 |mk:∀a b:Int,(vs=[.int a,.int b])->(b.natAbs.log2<9000)->(∀r H',Same H H'->H' r=some (.tup (quo a b))->Q (.ref r) H')->spQuoW vs H Q
noncomputable def bhZ:Sp:=λvs H Q _=>spQuoW vs H Q
theorem ok_quotient_told(F:Fun K "quotient_told" "quotient_told" s_quotient_told f fd):FnOk P w K mg base CX0 1 f fd ["a","b"] bhZ:=by
 refine F.ok sc_quotient_told (λvs H Q E h=> ?_) (λcdv A outer s H vs Q E hr h=> ?_)
 ·obtain⟨a,b,rfl,_⟩:=h
  rfl
 obtain⟨a,b,rfl,hb,q⟩:=h
 have nd:=sc_quotient_told.nd
 have hu:=hr.units0
 refine⟨_,(A6 (C8 (B2 (kEq (K:=K) hu) (pv 1) A5 rfl) (A7 (B5 (B7 (A0 A8 (A0 A8 A4))))) C1)
   (A7 (B5 (B7 (A0 A8 (A0 (B4 D1 (pv 0) (pv 1)) A4)))))), ?_⟩
 refine⟨_,rfl,.inl ⟨rfl,_,rfl,GY (λe=> ?_) (λe=> ?_)⟩⟩
 ·have e':b=0:=by have:=of_decide_eq_true e;injection this
  refine⟨P9,λp hp=>q p _ (A3 hp _) ?_⟩
  rw[A2,quo,if_pos e']
 ·have e':b≠0:=λz=>e (by rw[z];rfl)
  refine⟨_,rfl,_,rfl,_,_,rfl,rfl,⟨e',hb⟩,P9,λp hp=>q p _ (A3 hp _) ?_⟩
  rw[A2,quo,if_neg e']
inductive spOutW (vs:List V) (H:Hp) (Q:VK):Prop
 |mk:∀(s:Str) (a b:Int),(vs=[.str s,.int a,.int b])->((s="+"/\Q (.int (a+b)) H\/s="-"/\Q (.int (a - b)) H\/s="*"/\IntMulOk a b/\Q (.int (a*b)) H))->spOutW vs H Q
noncomputable def bdZ:Sp:=λvs H Q _=>spOutW vs H Q
theorem ok_outcome(F:Fun K "outcome" "outcome" s_outcome f fd):FnOk P w K mg base CX0 1 f fd VZ bdZ:=by
 refine F.ok sc_outcome (λvs H Q E h=> ?_) (λcdv A outer s H vs Q E hr h=> ?_)
 ·obtain⟨s,a,b,rfl,_⟩:=h
  rfl
 obtain⟨s,a,b,rfl,q⟩:=h
 have nd:=sc_outcome.nd
 have hu:=hr.units0
 refine⟨_,(A6 (C8 (B2 (kEq (K:=K) hu) (pv 0) A8 rfl) (A7 (B5 (B4 aWZ (pv 1) (pv 2)))) C1)
   (A6 (C8 (B2 (kEq (K:=K) hu) (pv 0) A8 rfl) (A7 (B5 (B4 P2 (pv 1) (pv 2)))) C1)
   (A7 (B5 (B4 EE (pv 1) (pv 2)))))), ?_⟩
 rcases q with⟨rfl,q⟩|⟨rfl,q⟩|⟨rfl,hm,q⟩
 ·exact⟨_,rfl,.inl ⟨rfl,_,rfl,ifT (by decide) ⟨_,rfl,_,rfl,.inl ⟨_,_,rfl,rfl,q⟩⟩⟩⟩
 ·exact⟨_,rfl,.inl ⟨rfl,_,rfl,ifF (by decide) ⟨_,rfl,.inl ⟨rfl,_,rfl,ifT (by decide) ⟨_,rfl,_,rfl,_,_,rfl,rfl,q⟩⟩⟩⟩⟩
 ·exact⟨_,rfl,.inl ⟨rfl,_,rfl,ifF (by decide) ⟨_,rfl,.inl ⟨rfl,_,rfl,ifF (by decide) ⟨_,rfl,_,rfl,_,_,rfl,rfl,hm,q⟩⟩⟩⟩⟩
inductive spBndW (vs:List V) (H:Hp) (Q:VK):Prop
 |mk:∀n:Int,(vs=[.int n])->(∀r H',Same H H'->H' r=some (.tup (bnd n))->Q (.ref r) H')->spBndW vs H Q
noncomputable def a7Z:Sp:=λvs H Q _=>spBndW vs H Q
theorem ok_bounded(F:Fun K "bounded" "bounded" s_bounded f fd)(B:NoG mg)(m_GREATEST:mg "GREATEST"=some (.int GR tG)):FnOk P w K mg base CX0 1 f fd ["number"] a7Z:=by
 refine F.ok sc_bounded (λvs H Q E h=> ?_) (λcdv A outer s H vs Q E hr h=> ?_)
 ·obtain⟨n,rfl,_⟩:=h
  rfl
 obtain⟨n,rfl,q⟩:=h
 have nd:=sc_bounded.nd
 have hu:=hr.units0
 refine⟨_,(A6 (C8 (B2 cIZ (B9 YK rfl B.abs_ bEZ (A0 (pv 0) A4)) (BK (v:=.int 10000000000000000000000000000000000000000) rfl m_GREATEST ⟨_,rfl⟩) rfl) (A7 (B5 (B7 (A0 A8 (A0 A8 A4))))) C1)
   (A7 (B5 (B7 (A0 A8 (A0 (pv 0) A4)))))), ?_⟩
 refine⟨_,rfl,_,rfl,_,_,rfl,rfl,_,rfl,GY (λe=> ?_) (λe=> ?_)⟩
 ·have e1:GR<(if n<0 then -n else n):=of_decide_eq_true e
  have e':n>GR\/n< -GR:=by
   split at e1
   ·exact .inr (by omega)
   ·exact .inl (by omega)
  refine⟨P9,λp hp=>q p _ (A3 hp _) ?_⟩
  rw[A2,bnd,if_pos e']
 ·have e1:¬GR<(if n<0 then -n else n):=λz=>e (decide_eq_true z)
  have e':¬(n>GR\/n< -GR):=by
   split at e1<;>omega
  refine⟨_,rfl,P9,λp hp=>q p _ (A3 hp _) ?_⟩
  rw[A2,bnd,if_neg e']
noncomputable def sg:Nat->Str
 |0=> "+"|1=> "-"|2=> "*"|3=> "<"|4=> "="|_=> "/"
noncomputable def tw:Nat->Int->Int->List V
 |0,a,b=>bnd (a+b)|1,a,b=>bnd (a - b)|2,a,b=>bnd (a*b)|3,a,b=> [.str "value",.bl (decide (a<b))]|4,a,b=> [.str "value",.bl (decide (V.int a=V.int b))]|_,a,b=>quo a b
inductive spTwoW (vs:List V) (H:Hp) (Q:VK):Prop
 |mk:∀(k:Nat) (a b:Int),(vs=[.str (sg k),.int a,.int b])->(k<6)->(IntMulOk a b)->(b.natAbs.log2<9000)->(∀r H',Same H H'->H' r=some (.tup (tw k a b))->Q (.ref r) H')->spTwoW vs H Q
noncomputable def spTwo:Sp:=λvs H Q _=>spTwoW vs H Q
theorem ok_two_told(F:Fun K "two_told" "two_told" s_two_told f fd)
  (Q5:Cn P w K mg base CX0 1 "quotient_told" ["a","b"] bhZ)
  (BU:Cn P w K mg base CX0 1 "outcome" VZ bdZ)
  (BY:Cn P w K mg base CX0 1 "bounded" ["number"] a7Z):
  FnOk P w K mg base CX0 2 f fd VZ spTwo:=by
 obtain⟨DN,DR,Q5,DM,DQ,DT⟩:=Q5
 obtain⟨UL,UH,BU,UD,UK,UB⟩:=BU
 obtain⟨TW,TZ,BY,UM,TX,UG⟩:=BY
 refine F.ok sc_two_told (λvs H Q E h=> ?_) (λcdv A outer s H vs Q E hr h=> ?_)
 ·obtain⟨k,a,b,rfl,_⟩:=h
  rfl
 obtain⟨k,a,b,rfl,hk,hm,hb,q⟩:=h
 have nd:=sc_two_told.nd
 have hu:=hr.units0
 refine⟨_,(A6 (C8 (B2 (kEq (K:=K) hu) (pv 0) A8 rfl) (A7 (B5 (B7 (A0 A8 (A0 (N2 SJ (pv 1) (pv 2) rfl) A4))))) C1)
   (A6 (C8 (B2 (kEq (K:=K) hu) (pv 0) A8 rfl) (A7 (B5 (B7 (A0 A8 (A0 (N2 (kEq (K:=K) hu) (pv 1) (pv 2) rfl) A4))))) C1)
   (A6 (C8 (B2 (kEq (K:=K) hu) (pv 0) A8 rfl) (A7 (B5 (B1 Q5 (hr.mono (by omega)) rfl DT DQ DM .nil B8 (A0 (pv 1) (A0 (pv 2) A4))))) C1)
   (A7 (B5 (B1 BY (hr.mono (by omega)) rfl UG TX UM .nil B8 (A0 (B1 BU (hr.mono (by omega)) rfl UB UK UD .nil B8 (A0 (pv 0) (A0 (pv 1) (A0 (pv 2) A4)))) A4))))))), ?_⟩
 have hk':k=0\/k=1\/k=2\/k=3\/k=4\/k=5:=by omega
 rcases hk' with rfl|rfl|rfl|rfl|rfl|rfl
 ·exact⟨_,rfl,.inl ⟨rfl,_,rfl,ifF (by decide) ⟨_,rfl,.inl ⟨rfl,_,rfl,ifF (by decide) ⟨_,rfl,.inl ⟨rfl,_,rfl,ifF (by decide)
   ⟨_,rfl,_,rfl,_,rfl,_,_,_,rfl,.inl ⟨rfl,_,rfl,q⟩⟩⟩⟩⟩⟩⟩⟩
 ·exact⟨_,rfl,.inl ⟨rfl,_,rfl,ifF (by decide) ⟨_,rfl,.inl ⟨rfl,_,rfl,ifF (by decide) ⟨_,rfl,.inl ⟨rfl,_,rfl,ifF (by decide)
   ⟨_,rfl,_,rfl,_,rfl,_,_,_,rfl,.inr (.inl ⟨rfl,_,rfl,q⟩)⟩⟩⟩⟩⟩⟩⟩
 ·exact⟨_,rfl,.inl ⟨rfl,_,rfl,ifF (by decide) ⟨_,rfl,.inl ⟨rfl,_,rfl,ifF (by decide) ⟨_,rfl,.inl ⟨rfl,_,rfl,ifF (by decide)
   ⟨_,rfl,_,rfl,_,rfl,_,_,_,rfl,.inr (.inr ⟨rfl,hm,_,rfl,q⟩)⟩⟩⟩⟩⟩⟩⟩
 ·exact⟨_,rfl,.inl ⟨rfl,_,rfl,ifT (by decide) ⟨_,rfl,_,rfl,_,_,rfl,rfl,P9,λp hp=>q p _ (A3 hp _) A2⟩⟩⟩
 ·exact⟨_,rfl,.inl ⟨rfl,_,rfl,ifF (by decide) ⟨_,rfl,.inl ⟨rfl,_,rfl,ifT (by decide) ⟨_,rfl,_,rfl,.inl ⟨rfl,P9,λp hp=>q p _ (A3 hp _) A2⟩⟩⟩⟩⟩⟩
 ·exact⟨_,rfl,.inl ⟨rfl,_,rfl,ifF (by decide) ⟨_,rfl,.inl ⟨rfl,_,rfl,ifF (by decide) ⟨_,rfl,.inl ⟨rfl,_,rfl,ifT (by decide)
   ⟨_,rfl,_,rfl,_,_,rfl,hb,q⟩⟩⟩⟩⟩⟩⟩
end
end NM
namespace CL
open PySem L2 BV
theorem GRe:NM.GR=10000000000000000000000000000000000000000:=rfl
noncomputable def Bd(n:Int):Prop:= -NM.GR<=n/\n<=NM.GR
theorem TF{n:Int}(h:n.natAbs<2^300):Builtin.Int.intBits n<=2^20:=le_trans (intBits_le_iff.mpr h) (by decide)
theorem Bd.abs{n:Int}(h:Bd n):n.natAbs<2^300:=by
 have e:(10000000000000000000000000000000000000000:Nat)<2^300:=by decide +kernel
 have hG:=GRe
 obtain⟨h1,h2⟩:=h
 generalize 2^300=k at e⊢
 omega
theorem Bd.mul{a b:Int}(h:Bd a)(h':Bd b):IntMulOk a b:=IntMulOk.of_bits (TF h.abs) (TF h'.abs)
theorem Bd.log{n:Int}(h:Bd n):n.natAbs.log2<9000:=by
 by_cases e:n.natAbs=0
 ·rw[e];decide +kernel
 ·have:=(Nat.log2_lt e).mpr h.abs
  omega
inductive Rk where
 |push (v:V)|non|load (j:Nat)|keep (j:Nat)|two (k:Nat)|cons|head|tail|empty|not|skip (n:Nat)|unless (n:Nat)|close (b n:Nat)
noncomputable def wd:Nat->Str
 |0=> "add"|1=> "sub"|2=> "mul"|3=> "less"|4=> "same"|_=> "div"
noncomputable def rkV:Rk->List V
 | .push v=> [.str "push",v]
 | .non=> [.str "none"]
 | .load j=> [.str "load",.int (j:Nat)]
 | .keep j=> [.str "keep",.int (j:Nat)]
 | .two k=> [.str (wd k)]
 | .cons=> [.str "cons"]
 | .head=> [.str "head"]
 | .tail=> [.str "tail"]
 | .empty=> [.str "empty"]
 | .not=> [.str "not"]
 | .skip n=> [.str "skip",.int (n:Nat)]
 | .unless n=> [.str "unless",.int (n:Nat)]
 | .close b n=> [.str "close",.int (b:Nat),.int (n:Nat)]
inductive Eo where
 |fr (d:Int) (sl st:List V)|rf (w:Str)|pair (st:List V) (x y:V)|fn (st:List V) (b:Nat) (xs:List V)
noncomputable def NS(H:Hp)(v:V):Prop:=(∃i,v=.int i)\/(∃b,v=.bl b)\/v=.non\/∃p xs,v=.ref p/\H p=some (.tup xs)
inductive Ef (H:Hp) (us sl:List V):Rk->List V->Eo->Prop
 |push {v st}:Z6 v=true->Ef H us sl (.push v) st (.fr 1 sl (st++ [v]))
 |non {st}:Ef H us sl .non st (.fr 1 sl (st++ [.non]))
 |load {j v st}:sl[j]? =some v->Ef H us sl (.load j) st (.fr 1 sl (st++ [v]))
 |keep {j v st}:j<sl.length->Ef H us sl (.keep j) (st++ [v]) (.fr 1 (sl.take j++ [v]++sl.drop (j+1)) st)
 |twoV {k a b v st}:k<6->Bd a->Bd b->NM.tw k a b=[.str "value",v]->NS H v->Ef H us sl (.two k) (st++ [.int a,.int b]) (.fr 1 sl (st++ [v]))
 |twoR {k a b w st}:k<6->Bd a->Bd b->NM.tw k a b=[.str "refused",.str w]->Ef H us sl (.two k) (st++ [.int a,.int b]) (.rf w)
 |cons {x y st}:Ef H us sl .cons (st++ [x,y]) (.pair st x y)
 |headN {st}:Ef H us sl .head (st++ [.non]) (.rf "head")
 |tailN {st}:Ef H us sl .tail (st++ [.non]) (.rf "tail")
 |head {p c h t st} {j:Nat}:H p=some (.tup [.str "cell",.int (j:Nat)])->us[j]? =some (.ref c)->H c=some (.tup [.str "pair",h,t])->NS H h->Ef H us sl .head (st++ [.ref p]) (.fr 1 sl (st++ [h]))
 |tail {p c h t st} {j:Nat}:H p=some (.tup [.str "cell",.int (j:Nat)])->us[j]? =some (.ref c)->H c=some (.tup [.str "pair",h,t])->NS H t->Ef H us sl .tail (st++ [.ref p]) (.fr 1 sl (st++ [t]))
 |emptyN {st}:Ef H us sl .empty (st++ [.non]) (.fr 1 sl (st++ [.bl true]))
 |empty {p xs st}:H p=some (.tup xs)->Ef H us sl .empty (st++ [.ref p]) (.fr 1 sl (st++ [.bl false]))
 |not {b st}:Ef H us sl .not (st++ [.bl b]) (.fr 1 sl (st++ [.bl (!b)]))
 |skip {n st}:Ef H us sl (.skip n) st (.fr (1+(n:Nat)) sl st)
 |unless {n b st}:Ef H us sl (.unless n) (st++ [.bl b]) (.fr (1+if b=true then 0 else(n:Int)) sl st)
 |close {b n st xs}:xs.length=n->Ef H us sl (.close b n) (st++xs) (.fn st b xs)
theorem XI{k:Nat}(hk:k<6)(a b:Int):(∃v,((∃i,v=.int i)\/∃b,v=.bl b)/\NM.tw k a b=[.str "value",v])\/∃w,NM.tw k a b=[.str "refused",.str w]:=by
 have hb:∀n:Int,(∃v,((∃i,v=.int i)\/∃b,v=.bl b)/\NM.bnd n=[.str "value",v])\/∃w,NM.bnd n=[.str "refused",.str w]:=λn=>by
  unfold NM.bnd
  split
  ·exact .inr ⟨_,rfl⟩
  ·exact .inl ⟨_,.inl ⟨_,rfl⟩,rfl⟩
 have h:k=0\/k=1\/k=2\/k=3\/k=4\/k=5:=by omega
 rcases h with rfl|rfl|rfl|rfl|rfl|rfl
 ·exact hb _
 ·exact hb _
 ·exact hb _
 ·exact .inl ⟨_,.inr ⟨_,rfl⟩,rfl⟩
 ·exact .inl ⟨_,.inr ⟨_,rfl⟩,rfl⟩
 ·show(∃v,((∃i,v=.int i)\/∃b,v=.bl b)/\NM.quo a b=[.str "value",v])\/∃w,NM.quo a b=[.str "refused",.str w]
  unfold NM.quo
  split
  ·exact .inr ⟨_,rfl⟩
  ·exact .inl ⟨_,.inl ⟨_,rfl⟩,rfl⟩
end CL
namespace CL
open PySem L2 BV
seal PE PT PW PA PS PSs PTs PI PG PGs PO
noncomputable def top(i:Nat):Stmt:=PySem.Challenge.pw_speakmill_k65_each_row.main.body.getD i (.Pass ⟨0,0,0,0⟩)
noncomputable abbrev s_init:Stmt:=J2 (top 4) 0
noncomputable abbrev s_put:Stmt:=J2 (top 4) 1
noncomputable abbrev s_at:Stmt:=J2 (top 4) 2
noncomputable abbrev s_many:Stmt:=J2 (top 4) 3
noncomputable abbrev s_told:Stmt:=J2 (top 4) 4
noncomputable abbrev s_law_same:Stmt:=top 34
noncomputable abbrev cEZ:List Str:=["self"]
theorem sc_init:FnScope cEZ J1 (A9 s_init):=fS
noncomputable abbrev dmZ:List Str:=["self","cell"]
theorem sc_put:FnScope dmZ WP (A9 s_put):=fS
noncomputable abbrev dYZ:List Str:=["self","value"]
theorem sc_at:FnScope dYZ GZ (A9 s_at):=fS
noncomputable abbrev bvZ:List Str:=["self"]
theorem sc_many:FnScope bvZ J1 (A9 s_many):=fS
noncomputable abbrev bUZ:List Str:=["self"]
theorem sc_told:FnScope bUZ J1 (A9 s_told):=fS
noncomputable abbrev FN:List Str:=["_law_found","_law_due_here"]
theorem sc_law_same:FnScope FN q9L (A9 s_law_same):=fS
structure NoG (mg:Str->Option Value):Prop where
 len_:mg "len"=none
 list_:mg "list"=none
 range_:mg "range"=none
 isinstance_:mg "isinstance"=none
 str_:mg "str"=none
 tuple_:mg "tuple"=none
 int_:mg "int"=none
 bool_:mg "bool"=none
 all_:mg "all"=none
theorem ifT{c A B:Prop}[Decidable c](h:c)(a:A):if c then A else B:=by rw[if_pos h];exact a
theorem ifF{c A B:Prop}[Decidable c](h:¬c)(b:B):if c then A else B:=by rw[if_neg h];exact b
structure RCls (K:FZ) (C:Addr) (mf:Str->Addr) (md:Str->FuncData):Prop where
 cl:Cls K C
 ni:NoAttr K C "in_order"
 m_put:Meth K C "put" (mf "put")
 m_at:Meth K C "at" (mf "at")
 m_many:Meth K C "many" (mf "many")
 m_told:Meth K C "told" (mf "told")
 b_put:Binds K (md "put") WP []
 b_at:Binds K (md "at") GZ []
 b_many:Binds K (md "many") J1 []
 b_told:Binds K (md "told") J1 []
noncomputable def CAt(C:Addr)(H:Hp)(o L:Addr)(us:List V):Prop:=∃dx,H o=some (.ins C dx [("in_order",.ref L)])/\H L=some (.lst us)
theorem CAt.same{C:Addr}{H H':Hp}{o L:Addr}{us:List V}(h:CAt C H o L us)(s:Same H H'):CAt C H' o L us:=let⟨dx,h1,h2⟩:=h;⟨dx,s _ _ h1,s _ _ h2⟩
theorem apZ{K:FZ}{H H':Hp}{x:V}{t:Value}(s:Same H H')(h:TyOf K H x t):TyOf K H' x t:=by
 cases h with
 |non=>exact .non
 |bl y=>exact .bl y
 |int y=>exact .int y
 |str y=>exact .str y
 |flt y=>exact .flt y
 |lst e=>exact .lst (s _ _ e)
 |frz e=>exact .frz (s _ _ e)
 |tup e=>exact .tup (s _ _ e)
 |dK e=>exact .dK (s _ _ e)
 |dT e=>exact .dT (s _ _ e)
 |ins e c a b d m=>exact .ins (s _ _ e) c a b d m
theorem lk(u:V):([("in_order",u)]:List (Str×V)).lookup ("in_order":Str)=some u:=by rfl
section
variable{P:Program}{w:World}{K:FZ}{mg:Str->Option Value}{base:Heap}{C fi f:Addr}{di fd:FuncData}{mf:Str->Addr}{md:Str->FuncData}
inductive spInitW(C:Addr)(vs:List V)(H:Hp)(Q:VK):Prop
 |mk:∀x dx,(vs=[.ref x])->(H x=some (.ins C dx []))->(∀L,H L=none->Q .non (upd (upd H L (.lst [])) x (.ins C dx [("in_order",.ref L)])))->spInitW C vs H Q
noncomputable def QQ(C:Addr):Sp:=λvs H Q _=>spInitW C vs H Q
theorem ok_init(F:Fun K "__init__" "Cells.__init__" s_init fi di)(RC:RCls K C mf md):FnOk P w K mg base CX0 1 fi di J1 (QQ C):=by
 refine F.ok sc_init (λvs H Q E h=> ?_) (λcdv A outer s H vs Q E hr h=> ?_)
 ·obtain⟨x,dx,rfl,_⟩:=h
  rfl
 obtain⟨x,dx,rfl,h1,q⟩:=h
 have nd:=sc_init.nd
 refine⟨_,(A7 (U2 (pv 0) (D4 A4) rfl)), ?_⟩
 refine⟨(by show 0<=sizeLine;decide),λL hL=>⟨_,rfl,x,C,dx,_,rfl,(A3 hL _) _ _ h1,RC.cl,RC.ni,(by decide), ?_⟩⟩
 exact q L hL
inductive spPutW (C:Addr) (vs:List V) (H:Hp) (Q:VK):Prop
 |mk:∀o L us c,(vs=[.ref o,c])->(CAt C H o L us)->(us.length<=1000)->(∀p H',H p=none->Bt L H H'->CAt C H' o L (us++ [c])->H' p=some (.tup [.str "cell",.int (us.length:Nat)])->Q (.ref p) H')->spPutW C vs H Q
noncomputable def YG(C:Addr):Sp:=λvs H Q _=>spPutW C vs H Q
theorem ok_put(F:Fun K "put" "Cells.put" s_put (mf "put") (md "put"))(B:NoG mg)(RC:RCls K C mf md):FnOk P w K mg base CX0 1 (mf "put") (md "put") WP (YG C):=by
 refine F.ok sc_put (λvs H Q E h=> ?_) (λcdv A outer s H vs Q E hr h=> ?_)
 ·obtain⟨o,L,us,c,rfl,_⟩:=h
  rfl
 obtain⟨o,L,us,c,rfl,⟨dx,h1,h2⟩,hz,q⟩:=h
 have nd:=sc_put.nd
 have zz:(2000:Nat)<=sizeLine:=by decide
 refine⟨_,(A6 (C0 (M9 (K:=K) PySem.F.plainAttrs_list PySem.F.slot_list_append PySem.F.type_list_append C3 (G3 (pv 0) rfl) (A0 (pv 1) A4)))
   (A7 (B5 (B7 (A0 A8 (A0 (B4 P2 (B9 (J9 (K:=K)) rfl B.len_ E8 (A0 (G3 (pv 0) rfl) A4)) A5) A4)))))), ?_⟩
 refine⟨_,rfl,o,C,dx,_,_,rfl,h1,RC.cl,RC.ni,lk _,.inl ⟨rfl,_,SqL.of h2⟩,_,rfl,L,us,_,rfl,rfl,h2,by omega, ?_⟩
 have hoL:o≠L:=λe=>by subst e;rw[h2]at h1;cases h1
 have h1':upd H L (.lst (us++ [c])) o=some (.ins C dx [("in_order",.ref L)]):=by rw[B0 hoL];exact h1
 refine⟨_,rfl,o,C,dx,_,_,rfl,h1',RC.cl,RC.ni,lk _,_,_,rfl,.inl ⟨_,SqL.of A2,rfl⟩,_,_,rfl,rfl,P9,λp hp=> ?_⟩
 have hpL:p≠L:=λe=>by subst e;rw[A2]at hp;cases hp
 have hp0:H p=none:=by rw[<-hp,B0 hpL]
 have el:(((us++ [c]).length:Nat):Int) - 1=(us.length:Nat):=by rw[length_append];simp
 show Q (.ref p) (upd (upd H L (.lst (us++ [c]))) p (.tup [.str "cell",.int ((((us++ [c]).length:Nat):Int) - 1)]))
 rw[el]
 have s2:=A3 hp (.tup [.str "cell",.int (us.length:Nat)])
 exact q p _ hp0 ((Bt.upd _).trans (.of s2)) ⟨dx,s2 _ _ h1',s2 _ _ A2⟩ A2
inductive spAtW (C:Addr) (vs:List V) (H:Hp) (Q:VK):Prop
 |mk:∀(o L:Addr) (us:List V) (v:Addr) (j:Nat) (c:V),(vs=[.ref o,.ref v])->(CAt C H o L us)->(H v=some (.tup [.str "cell",.int (j:Nat)]))->(us[j]? =some c)->(Q c H)->spAtW C vs H Q
noncomputable def aXZ(C:Addr):Sp:=λvs H Q _=>spAtW C vs H Q
theorem ok_at(F:Fun K "at" "Cells.at" s_at (mf "at") (md "at"))(RC:RCls K C mf md):FnOk P w K mg base CX0 1 (mf "at") (md "at") GZ (aXZ C):=by
 refine F.ok sc_at (λvs H Q E h=> ?_) (λcdv A outer s H vs Q E hr h=> ?_)
 ·obtain⟨o,L,us,v,j,c,rfl,_⟩:=h
  rfl
 obtain⟨o,L,us,v,j,c,rfl,⟨dx,h1,h2⟩,hv,hj,q⟩:=h
 have nd:=sc_at.nd
 refine⟨_,(A7 (B5 (ixE K w (G3 (pv 0) rfl) (ixE K w (pv 1) A5)))), ?_⟩
 exact⟨_,rfl,o,C,dx,_,_,rfl,h1,RC.cl,RC.ni,lk _,_,rfl,(ixT hv rfl (ixL h2 (C9 hj) q))⟩
inductive spManyW (C:Addr) (vs:List V) (H:Hp) (Q:VK):Prop
 |mk:∀o L us,(vs=[.ref o])->(CAt C H o L us)->(Q (.int (us.length:Nat)) H)->spManyW C vs H Q
noncomputable def cgZ(C:Addr):Sp:=λvs H Q _=>spManyW C vs H Q
theorem ok_many(F:Fun K "many" "Cells.many" s_many (mf "many") (md "many"))(B:NoG mg)(RC:RCls K C mf md):FnOk P w K mg base CX0 1 (mf "many") (md "many") J1 (cgZ C):=by
 refine F.ok sc_many (λvs H Q E h=> ?_) (λcdv A outer s H vs Q E hr h=> ?_)
 ·obtain⟨o,L,us,rfl,_⟩:=h
  rfl
 obtain⟨o,L,us,rfl,⟨dx,h1,h2⟩,q⟩:=h
 have nd:=sc_many.nd
 refine⟨_,(A7 (B5 (B9 (J9 (K:=K)) rfl B.len_ E8 (A0 (G3 (pv 0) rfl) A4)))), ?_⟩
 exact⟨_,rfl,o,C,dx,_,_,rfl,h1,RC.cl,RC.ni,lk _,_,_,rfl,.inl ⟨_,SqL.of h2,rfl⟩,q⟩
inductive spToldCW (C:Addr) (vs:List V) (H:Hp) (Q:VK):Prop
 |mk:∀o L us,(vs=[.ref o])->(CAt C H o L us)->(∀l,H l=none->Q (.ref l) (upd H l (.lst us)))->spToldCW C vs H Q
noncomputable def KD(C:Addr):Sp:=λvs H Q _=>spToldCW C vs H Q
theorem ok_told(F:Fun K "told" "Cells.told" s_told (mf "told") (md "told"))(B:NoG mg)(RC:RCls K C mf md):FnOk P w K mg base CX0 1 (mf "told") (md "told") J1 (KD C):=by
 refine F.ok sc_told (λvs H Q E h=> ?_) (λcdv A outer s H vs Q E hr h=> ?_)
 ·obtain⟨o,L,us,rfl,_⟩:=h
  rfl
 obtain⟨o,L,us,rfl,⟨dx,h1,h2⟩,q⟩:=h
 have nd:=sc_told.nd
 refine⟨_,(A7 (B5 (K0 (X7 (K:=K)) rfl B.list_ N0 (A0 (G3 (pv 0) rfl) A4)))), ?_⟩
 exact⟨_,rfl,o,C,dx,_,_,rfl,h1,RC.cl,RC.ni,lk _,L,us,rfl,.inl (SqL.of h2),q⟩
noncomputable def RD:Sp:=λ_ _ _ _=>False
theorem SG{CX:CXT}{k:Nat}{f:Addr}{fd:FuncData}{ps:List Str}:FnOk P w K mg base CX k f fd ps RD:=⟨λ_ _ _ _ h=>h.elim,λ_ _ _ _ _ _ _ _ _ _ _ _ _ h=>h.elim⟩
end
noncomputable abbrev s_entered:Stmt:=top 17
noncomputable abbrev s_called:Stmt:=top 19
noncomputable abbrev s_behind:Stmt:=top 20
noncomputable abbrev s_top_values:Stmt:=top 21
noncomputable abbrev UO:List Str:=["blocks","number","values","begun"]
theorem sc_entered:FnScope UO aOZ (A9 s_entered):=fS
noncomputable abbrev ZH:List Str:=["blocks","cells","frame","row","stack","many","fn"]
theorem sc_called:FnScope ZH aHZ (A9 s_called):=fS
noncomputable abbrev ZM:List Str:=["frame","many_taken","values","stack"]
theorem sc_behind:FnScope ZM MS (A9 s_behind):=fS
noncomputable abbrev JV:List Str:=["stack","many"]
theorem sc_top_values:FnScope JV aZZ (A9 s_top_values):=fS
theorem EX:4<=sizeLine:=by decide
theorem EW:0<=sizeLine:=by decide
theorem Q1{K:FZ}{H:Hp}{a b:Addr}{xs ys:List V}{Q:VK}(ha:H a=some (.tup xs))(hb:H b=some (.tup ys))(hz:xs.length+ys.length<=2000)
  (go:∀r H',Same H H'->H' r=some (.tup (xs++ys))->Q (.ref r) H'):IB K (.ref a) (.ref b) H Q\/CI K (.ref a) (.ref b) H Q:=by
 have zz:(2000:Nat)<=sizeLine:=by decide
 cases xs with
 |nil=>exact .inr ⟨a,b,ys,rfl,rfl,SqT.of ha,SqT.of hb,go b H (Same.refl _) hb⟩
 |cons x xs=>
  refine .inl ⟨a,b,x::xs,ys,rfl,rfl,SqT.of ha,SqT.of hb,by simp,by omega,λe=> ?_,λe p hp=> ?_⟩
  ·subst e;exact go a H (Same.refl _) (by rw[append_nil];exact ha)
  ·exact go p _ (A3 hp _) A2
theorem T0{K:FZ}{H:Hp}{a:Addr}{xs:List V}{lo hi:Option Int}{Q:VK}(ha:H a=some (.tup xs))(go:∀r H',Same H H'->H' r=some (.tup (G9 xs lo hi))->Q (.ref r) H'):
  (rSlL K (.ref a) lo hi H Q\/rSlT K (.ref a) lo hi H Q)\/cFZ K (.ref a) lo hi H Q:=by
 by_cases h:HT.sIx xs.length 0 lo=0/\HT.sIx xs.length xs.length hi=xs.length
 ·refine .inr ⟨a,xs,rfl,SqT.of ha,h,go a H (Same.refl _) ?_⟩
  have e:G9 xs lo hi=xs:=by unfold G9;rw[h.1,h.2];simp
  rw[e];exact ha
 ·exact .inl (.inr ⟨a,xs,rfl,SqT.of ha,h,λp hp=>go p _ (A3 hp _) A2⟩)
noncomputable def FrAt(H:Hp)(p:Addr)(k at_:Int)(sl st:List V):Prop:=∃q e,H p=some (.tup [.int k,.int at_,.ref q,.ref e])/\H q=some (.tup sl)/\H e=some (.tup st)
theorem FrAt.mono{H H':Hp}(m:Mo H H'){p:Addr}{k at_:Int}{sl st:List V}(h:FrAt H p k at_ sl st):FrAt H' p k at_ sl st:=let⟨q,e,h1,h2,h3⟩:=h;⟨q,e,m _ _ h1,m _ _ h2,m _ _ h3⟩
noncomputable def BkAt(H:Hp)(bs:List V)(k sz:Nat):Prop:=∃t c rows,bs[k]? =some (.ref t)/\H t=some (.tup [c,.int (sz:Nat),rows])
theorem BkAt.mono{H H':Hp}(m:Mo H H'){bs:List V}{k sz:Nat}(h:BkAt H bs k sz):BkAt H' bs k sz:=let⟨t,c,r,h1,h2⟩:=h;⟨t,c,r,h1,m _ _ h2⟩
section
variable{P:Program}{w:World}{K:FZ}{mg:Str->Option Value}{base:Heap}{C f:Addr}{fd:FuncData}{mf:Str->Addr}{md:Str->FuncData}{Y6 O9 R4:Addr}{Y5 O8 Q9:FuncData}
inductive spEntW(vs:List V)(H:Hp)(Q:VK):Prop
 |mk:∀(bl:Addr) (bs:List V) (k sz:Nat) (va:Addr) (xs:List V),(vs=[.ref bl,.int (k:Nat),.ref va])->(H bl=some (.lst bs))->(BkAt H bs k sz)->((H va=some (.lst xs)\/H va=some (.tup xs)))->(xs.length<=sz)->(sz<=500)->(∀p H',Same H H'->FrAt H' p k 0 (xs++List.replicate (sz - xs.length) .non) []->Q (.ref p) H')->spEntW vs H Q
noncomputable def ZC:Sp:=λvs H Q _=>spEntW vs H Q
theorem ok_entered(F:Fun K "entered" "entered" s_entered f fd)(B:NoG mg):FnOk P w K mg base CX0 1 f fd aOZ ZC:=by
 refine F.ok sc_entered (λvs H Q E h=> ?_) (λcdv A outer s H vs Q E hr h=> ?_)
 ·obtain⟨bl,bs,k,sz,va,xs,rfl,_⟩:=h
  rfl
 obtain⟨bl,bs,k,sz,va,xs,rfl,hbl,⟨t,c,rows,hk,ht⟩,hva,hxs,hsz,q⟩:=h
 have nd:=sc_entered.nd
 refine⟨_,(A6 (D8 (C5 (i:=3) nd rfl (Or.inl rfl) (K0 (ED (K:=K)) rfl B.tuple_ P4 (A0 (pv 2) A4))))
   (A7 (B5 (B7 (A0 (pv 1) (A0 A5 (A0 (B4 (SR (K:=K)) (pv 3) (B4 (blZ (K:=K)) (B7 (A0 N7 A4)) (B4 P2 (ixE K w (ixE K w (pv 0) (pv 1)) A5) (B9 (J9 (K:=K)) rfl B.len_ E8 (A0 (pv 3) A4))))) (A0 (B7 A4) A4)))))))), ?_⟩
 refine⟨fun σ H'=>∃b,σ=[some (.ref bl),some (.int (k:Nat)),some (.ref va),some (.ref b)]/\Same H H'/\H' b=some (.tup xs), ?_, ?_⟩
 ·rcases hva with hva|hva
  ·exact⟨_,rfl,va,xs,rfl,.inl ⟨SqL.of hva,λl hl=>⟨l,rfl,A3 hl _,A2⟩⟩⟩
  ·exact⟨_,rfl,va,xs,rfl,.inr ⟨SqT.of hva,va,rfl,Same.refl _,hva⟩⟩
 rintro σ H1 ⟨b,rfl,s1,hb⟩
 refine⟨_,rfl,_,rfl,CF,λt1 ht1=> ?_⟩
 have s2:=A3 ht1 (.tup [.non])
 have s12:=s1.trans s2
 refine⟨_,rfl,_,rfl,.inl ⟨bl,bs,_,_,rfl,rfl,SqL.of (s12 _ _ hbl),C9 hk,(ixT (s12 _ _ ht) rfl ⟨_,rfl,_,_,rfl,.inr ⟨_,SqT.of (s2 _ _ hb),rfl⟩,_,_,rfl,rfl,.inr ⟨t1,(sz:Int) - (xs.length:Nat),.non,rfl,rfl,SqT.of A2,by omega,by omega,λe=> ?_,λne p hp=> ?_⟩⟩)⟩⟩
 ·have e1:sz - xs.length=1:=by omega
  refine .inr (Q1 (s2 _ _ hb) A2 (by simp;omega) λr H3 s3 hr3=>⟨EW,λe he=>⟨EX,λp hp=> ?_⟩⟩)
  have s4:=A3 he (.tup [])
  have s5:=A3 hp (.tup [.int (k:Nat),.int 0,.ref r,.ref e])
  refine q p _ (s12.trans (s3.trans (s4.trans s5))) ⟨r,e,A2, ?_,s5 _ _ A2⟩
  rw[e1]
  exact s5 _ _ (s4 _ _ hr3)
 ·have s3:=A3 hp (.tup (List.replicate ((sz:Int) - (xs.length:Nat)).toNat .non))
  have e1:((sz:Int) - (xs.length:Nat)).toNat=sz - xs.length:=by omega
  refine .inr (Q1 (s3 _ _ (s2 _ _ hb)) A2 (by rw[length_replicate];omega) λr H3 s3' hr3=>⟨EW,λe he=>⟨EX,λp hp=> ?_⟩⟩)
  have s4:=A3 he (.tup [])
  have s5:=A3 hp (.tup [.int (k:Nat),.int 0,.ref r,.ref e])
  refine q p _ (s12.trans (s3.trans (s3'.trans (s4.trans s5)))) ⟨r,e,A2, ?_,s5 _ _ A2⟩
  rw[<-e1]
  exact s5 _ _ (s4 _ _ hr3)
inductive spBehW (vs:List V) (H:Hp) (Q:VK):Prop
 |mk:∀(fr:Addr) (k at_:Int) (sl st:List V) (m:Nat) (va:Addr) (ws:List V),(vs=[.ref fr,.int (m:Nat),.ref va])->(FrAt H fr k at_ sl st)->(m<=st.length)->(H va=some (.tup ws))->(st.length+ws.length<=1000)->(∀p H',Same H H'->FrAt H' p k (at_+1) sl (st.take (st.length - m)++ws)->Q (.ref p) H')->spBehW vs H Q
noncomputable def DG:Sp:=λvs H Q _=>spBehW vs H Q
theorem ok_behind(F:Fun K "behind" "behind" s_behind f fd)(B:NoG mg):FnOk P w K mg base CX0 1 f fd MS DG:=by
 refine F.ok sc_behind (λvs H Q E h=> ?_) (λcdv A outer s H vs Q E hr h=> ?_)
 ·obtain⟨fr,k,at_,sl,st,m,va,ws,rfl,_⟩:=h
  rfl
 obtain⟨fr,k,at_,sl,st,m,va,ws,rfl,⟨q0,e0,h1,h2,h3⟩,hm,hva,hz,q⟩:=h
 have nd:=sc_behind.nd
 refine⟨_,(A6 (C5 (i:=3) nd rfl (Or.inl rfl) (ixE K w (pv 0) A5))
   (A7 (B5 (B7 (A0 (ixE K w (pv 0) A5) (A0 (B4 (SR (K:=K)) (ixE K w (pv 0) A5) A5) (A0 (ixE K w (pv 0) A5) (A0 (B4 (SR (K:=K)) (G5 (W7 (K:=K)) (pv 3) K4 (J3 (B4 P2 (B9 (J9 (K:=K)) rfl B.len_ E8 (A0 (pv 3) A4)) (pv 1)))) (pv 2)) A4)))))))), ?_⟩
 refine⟨_,rfl,(ixT h1 rfl ?_)⟩
 refine⟨_,rfl,(ixT h1 rfl ⟨_,rfl,(ixT h1 rfl (.inl ⟨_,_,rfl,rfl,_,rfl,(ixT h1 rfl ?_)⟩))⟩)⟩
 refine⟨_,rfl,_,rfl,_,_,rfl,.inr ⟨_,SqT.of h3,rfl⟩,_,rfl,_,_,rfl,rfl,_,rfl,T0 h3 λr H1 s1 hr1=> ?_⟩
 have e1:G9 st none (some ((st.length:Int) - (m:Nat)))=st.take (st.length - m):=by
  have:(st.length:Int) - (m:Nat)=((st.length - m:Nat):Int):=by omega
  rw[this];exact PK _ _
 refine⟨_,rfl,.inr (Q1 hr1 (s1 _ _ hva) (by have:=Y3 st none (some ((st.length:Int) - (m:Nat)));omega) λr2 H2 s2 hr2=>⟨EX,λp hp=> ?_⟩)⟩
 have s3:=A3 hp (.tup [.int k,.int (at_+1),.ref q0,.ref r2])
 refine q p _ (s1.trans (s2.trans s3)) ⟨q0,r2,A2,s3 _ _ (s2 _ _ (s1 _ _ h2)), ?_⟩
 rw[<-e1]
 exact s3 _ _ hr2
inductive spTopW (vs:List V) (H:Hp) (Q:VK):Prop
 |mk:∀(sa:Addr) (st:List V) (m:Nat),(vs=[.ref sa,.int (m:Nat)])->(H sa=some (.tup st))->(m<=st.length)->(∀r H',Same H H'->H' r=some (.tup (st.drop (st.length - m)))->Q (.ref r) H')->spTopW vs H Q
noncomputable def WY:Sp:=λvs H Q _=>spTopW vs H Q
theorem ok_top_values(F:Fun K "top_values" "top_values" s_top_values f fd)(B:NoG mg):FnOk P w K mg base CX0 1 f fd aZZ WY:=by
 refine F.ok sc_top_values (λvs H Q E h=> ?_) (λcdv A outer s H vs Q E hr h=> ?_)
 ·obtain⟨sa,st,m,rfl,_⟩:=h
  rfl
 obtain⟨sa,st,m,rfl,hs,hm,q⟩:=h
 have nd:=sc_top_values.nd
 refine⟨_,(A7 (B5 (G5 (W7 (K:=K)) (pv 0) (J3 (B4 P2 (B9 (J9 (K:=K)) rfl B.len_ E8 (A0 (pv 0) A4)) (pv 1))) K4))), ?_⟩
 refine⟨_,rfl,_,rfl,_,_,rfl,.inr ⟨_,SqT.of hs,rfl⟩,_,rfl,_,_,rfl,rfl,_,rfl,T0 hs λr H1 s1 hr1=>q r H1 s1 ?_⟩
 have e1:G9 st (some ((st.length:Int) - (m:Nat))) none=st.drop (st.length - m):=by
  have:(st.length:Int) - (m:Nat)=((st.length - m:Nat):Int):=by omega
  rw[this];exact FU _ _
 rw[<-e1]
 exact hr1
end
theorem TC{α:Type}(xs:List α)(u v:α):atI (xs++ [u,v]) (-2)=some u:=by
 have h1:¬(0:Int)<= -2:=by decide
 have h2: -((xs++ [u,v]).length:Int)<= -2:=by simp;omega
 have h3:((-2:Int)+((xs++ [u,v]).length:Nat)).toNat=xs.length:=by simp;omega
 unfold atI ixN
 rw[if_neg h1,if_pos h2]
 show(xs++ [u,v])[((-2:Int)+((xs++ [u,v]).length:Nat)).toNat]? =some u
 rw[h3]
 simp
theorem QW(xs:List V)(v:V):G9 (xs++ [v]) (some (-1)) none=[v]:=by
 have h:HT.sIx (xs++ [v]).length 0 (some (-1))=xs.length:=by
  show(if(-1:Int)<0 then((-1:Int)+((xs++ [v]).length:Nat)).toNat else min (-1:Int).toNat (xs++ [v]).length)=xs.length
  rw[if_pos (by decide)]
  simp
  omega
 unfold G9
 rw[h,HT.sIx_none]
 simp
section
variable{P:Program}{w:World}{K:FZ}{mg:Str->Option Value}{base:Heap}{C f:Addr}{fd:FuncData}{mf:Str->Addr}{md:Str->FuncData}{Y6 O9 R4:Addr}{Y5 O8 Q9:FuncData}
noncomputable def Two(H:Hp)(Q:VK)(k at_:Int)(sl bel:List V)(wh:Nat)(ys:List V)(sz:Nat):Prop:=
 ∀p p1 p2 H',Same H H'->H' p=some (.tup [.ref p1,.ref p2])->FrAt H' p1 k (at_+1) sl bel->FrAt H' p2 wh 0 (ys++List.replicate (sz - ys.length) .non) []->Q (.ref p) H'
inductive spCalW (C:Addr) (vs:List V) (H:Hp) (Q:VK):Prop
 |mk:∀(bl:Addr) (bs:List V) (o L:Addr) (us:List V) (fr:Addr) (k at_:Int) (sl st:List V) (r:Addr),(vs=[.ref bl,.ref o,.ref fr,.ref r])->(H bl=some (.lst bs))->(CAt C H o L us)->(FrAt H fr k at_ sl st)->(st.length<=500)->(((∃wh m sz:Nat,H r=some (.tup [.str "call",.int (wh:Nat),.int (m:Nat)])/\m<=st.length/\BkAt H bs wh sz/\m<=sz/\sz<=500/\Two H Q k at_ sl (st.take (st.length - m)) wh (st.drop (st.length - m)) sz)\/(∃(wh sz:Nat) (bel:List V) (cv:Addr) (x:V) (j:Nat) (fc vt:Addr) (xs:List V),H r=some (.tup [.str "apply"])/\st=bel++ [.ref cv,x]/\H cv=some (.tup [.str "cell",.int (j:Nat)])/\us[j]? =some (.ref fc)/\H fc=some (.tup [.str "fn",.int (wh:Nat),.ref vt])/\H vt=some (.tup xs)/\BkAt H bs wh sz/\xs.length+1<=sz/\sz<=500/\Two H Q k at_ sl bel wh (xs++ [x]) sz)))->spCalW C vs H Q
noncomputable def spCal(C:Addr):Sp:=λvs H Q _=>spCalW C vs H Q
theorem ok_called(F:Fun K "called" "called" s_called f fd)(B:NoG mg)(RC:RCls K C mf md)(OQ:FnOk P w K mg base CX0 1 (mf "at") (md "at") GZ (aXZ C))
  (O6:Cn P w K mg base CX0 1 "entered" aOZ ZC)
  (D6:Cn P w K mg base CX0 1 "behind" MS DG)
  (M5:Cn P w K mg base CX0 1 "top_values" aZZ WY):
  FnOk P w K mg base CX0 2 f fd aHZ (spCal C):=by
 obtain⟨Y6,Y5,O6,Y7,Z0,Y8⟩:=O6
 obtain⟨O9,O8,D6,J8,J7,J6⟩:=D6
 obtain⟨R4,Q9,M5,V0,V2,U7⟩:=M5
 refine F.ok sc_called (λvs H Q E h=> ?_) (λcdv A outer s H vs Q E hr h=> ?_)
 ·obtain⟨bl,bs,o,L,us,fr,k,at_,sl,st,r,rfl,_⟩:=h
  rfl
 obtain⟨bl,bs,o,L,us,fr,k,at_,sl,st,r,rfl,hbl,hC,hF,hz,hor⟩:=h
 have nd:=sc_called.nd
 have hu:=hr.units0
 obtain⟨q0,e0,h1,h2,h3⟩:=id hF
 refine⟨_,(A6 (C5 (i:=4) nd rfl (Or.inl rfl) (ixE K w (pv 2) A5))
   (A6 (C8 (B2 (kEq (K:=K) hu) (ixE K w (pv 3) A5) A8 rfl) (A6 (C5 (i:=5) nd rfl (Or.inl rfl) (ixE K w (pv 3) A5))
   (A7 (B5 (B7 (A0 (B1 D6 (hr.mono (by omega)) rfl J6 J7 J8 .nil B8 (A0 (pv 2) (A0 (pv 5) (A0 (B7 A4) A4)))) (A0 (B1 O6 (hr.mono (by omega)) rfl Y8 Z0 Y7 .nil B8 (A0 (pv 0) (A0 (ixE K w (pv 3) A5) (A0 (B1 M5 (hr.mono (by omega)) rfl U7 V2 V0 .nil B8 (A0 (pv 4) (A0 (pv 5) A4))) A4)))) A4)))))) C1)
   (A6 (C5 (i:=6) nd rfl (Or.inl rfl) (O1 (pv 1) RC.cl RC.m_at OQ (hr.mono (by omega)) RC.b_at .nil B8 (A0 (ixE K w (pv 4) (J0 E4 A5)) A4)))
   (A7 (B5 (B7 (A0 (B1 D6 (hr.mono (by omega)) rfl J6 J7 J8 .nil B8 (A0 (pv 2) (A0 A5 (A0 (B7 A4) A4)))) (A0 (B1 O6 (hr.mono (by omega)) rfl Y8 Z0 Y7 .nil B8 (A0 (pv 0) (A0 (ixE K w (pv 6) A5) (A0 (B4 (SR (K:=K)) (ixE K w (pv 6) A5) (G5 (W7 (K:=K)) (pv 4) (J3 (J0 E4 A5)) K4)) A4)))) A4)))))))), ?_⟩
 refine⟨_,rfl,(ixT h1 rfl ?_)⟩
 rcases hor with⟨wh,m,sz,hr1,hm,hB,hms,hsz,q⟩|⟨wh,sz,bel,cv,x,j,fc,vt,xs,hr1,rfl,hcv,hj,hfc,hvt,hB,hxs,hsz,q⟩
 ·refine⟨_,rfl,(ixT hr1 rfl (.inl ⟨rfl,_,rfl,ifT (by decide) ?_⟩))⟩
  refine⟨_,rfl,(ixT hr1 rfl ?_)⟩
  refine⟨_,rfl,_,rfl,EW,λe he=> ?_⟩
  have s1:=A3 he (.tup [])
  refine⟨fr,k,at_,sl,st,m,e,[],rfl,hF.mono (B6 s1),hm,A2,by simp;omega,λp1 H1 s2 hp1=> ?_⟩
  rw[append_nil]at hp1
  have s12:=s1.trans s2
  refine⟨_,rfl,_,rfl,(ixT (s12 _ _ hr1) rfl ⟨_,rfl,_,rfl,e0,st,m,rfl,s12 _ _ h3,hm,λt2 H2 s3 ht2=> ?_⟩)⟩
  refine⟨bl,bs,wh,sz,t2,_,rfl,s3 _ _ (s12 _ _ hbl),hB.mono (B6 (s12.trans s3)),.inr ht2,by rw[length_drop];omega,hsz,λp2 H3 s4 hp2=>⟨P9,λp hp=> ?_⟩⟩
  have s5:=A3 hp (.tup [.ref p1,.ref p2])
  exact q p p1 p2 _ (s12.trans (s3.trans (s4.trans s5))) A2 (hp1.mono (B6 (s3.trans (s4.trans s5)))) (hp2.mono (B6 s5))
 ·refine⟨_,rfl,(ixT hr1 rfl (.inl ⟨rfl,_,rfl,ifF (by decide) ?_⟩))⟩
  obtain⟨dx,i1,i2⟩:=id hC
  refine⟨_,rfl,o,dx,_,rfl,i1,rfl,_,rfl,_,rfl,(ixT h3 (TC _ _ _) ⟨o,L,us,cv,j,_,rfl,hC,hcv,hj, ?_⟩)⟩
  refine⟨_,rfl,EW,λe he=> ?_⟩
  have s1:=A3 he (.tup [])
  refine⟨fr,k,at_,sl,_,2,e,[],rfl,hF.mono (B6 s1),by simp,A2,by simp at hz⊢;omega,λp1 H1 s2 hp1=> ?_⟩
  have e1:(bel++ [.ref cv,x]).take ((bel++ [.ref cv,x]).length - 2)++ []=bel:=by simp
  rw[e1]at hp1
  have s12:=s1.trans s2
  refine⟨_,rfl,_,rfl,(ixT (s12 _ _ hfc) rfl ⟨_,rfl,(ixT (s12 _ _ hfc) rfl ⟨_,rfl,_,rfl,_,rfl,T0 (s12 _ _ h3) λt2 H2 s3 ht2=> ?_⟩)⟩)⟩
  have e2:G9 (bel++ [.ref cv,x]) (some (-1)) none=[x]:=by
   have:bel++ [.ref cv,x]=(bel++ [.ref cv])++ [x]:=by simp
   rw[this];exact QW _ _
  rw[e2]at ht2
  refine .inr (Q1 (s3 _ _ (s12 _ _ hvt)) ht2 (by simp;omega) λt3 H3 s4 ht3=> ?_)
  have s34:=s12.trans (s3.trans s4)
  refine⟨bl,bs,wh,sz,t3,_,rfl,s34 _ _ hbl,hB.mono (B6 s34),.inr ht3,by simp;omega,hsz,λp2 H4 s5 hp2=>⟨P9,λp hp=> ?_⟩⟩
  have s6:=A3 hp (.tup [.ref p1,.ref p2])
  exact q p p1 p2 _ (s34.trans (s5.trans s6)) A2 (hp1.mono (B6 (s3.trans (s4.trans (s5.trans s6))))) (hp2.mono (B6 s6))
end
noncomputable abbrev s_two_done:Stmt:=top 22
noncomputable abbrev s_part_done:Stmt:=top 23
noncomputable abbrev s_with_new_cell:Stmt:=top 24
noncomputable abbrev s_with_nothing_put:Stmt:=top 25
noncomputable abbrev s_with_slot:Stmt:=top 26
noncomputable abbrev s_further:Stmt:=top 27
noncomputable abbrev s_value_put:Stmt:=top 28
noncomputable abbrev RL:List Str:=["frame","sign","stack","told"]
theorem sc_two_done:FnScope RL ["frame","sign"] (A9 s_two_done):=fS
noncomputable abbrev LW:List Str:=["cells","frame","word","top","pair"]
theorem sc_part_done:FnScope LW bKZ (A9 s_part_done):=fS
noncomputable abbrev DY:List Str:=["cells","frame","row","stack","many"]
theorem sc_with_new_cell:FnScope DY QN (A9 s_with_new_cell):=fS
noncomputable abbrev AV:List Str:=["frame","row"]
theorem sc_with_nothing_put:FnScope AV WC (A9 s_with_nothing_put):=fS
noncomputable abbrev MB:List Str:=["frame","slot","value","slots"]
theorem sc_with_slot:FnScope MB czZ (A9 s_with_slot):=fS
noncomputable abbrev VG:List Str:=["frame","many_rows"]
theorem sc_further:FnScope VG cpZ (A9 s_further):=fS
noncomputable abbrev NE:List Str:=["frame","row"]
theorem sc_value_put:FnScope NE WC (A9 s_value_put):=fS
theorem dsZ{α:Type}(xs:List α)(u v:α):atI (xs++ [u,v]) (-1)=some v:=by
 have:xs++ [u,v]=(xs++ [u])++ [v]:=by simp
 rw[this];exact G0 _ _
theorem cut_m(xs:List V)(v:V):G9 (xs++ [v]) none (some (-1))=xs:=by
 have h:HT.sIx (xs++ [v]).length (xs++ [v]).length (some (-1))=xs.length:=by
  show(if(-1:Int)<0 then((-1:Int)+((xs++ [v]).length:Nat)).toNat else min (-1:Int).toNat (xs++ [v]).length)=xs.length
  rw[if_pos (by decide)]
  simp
  omega
 unfold G9
 rw[h,HT.sIx_none]
 simp
theorem RK(xs:List V)(u v:V):G9 (xs++ [u,v]) (some (-2)) none=[u,v]:=by
 have h:HT.sIx (xs++ [u,v]).length 0 (some (-2))=xs.length:=by
  show(if(-2:Int)<0 then((-2:Int)+((xs++ [u,v]).length:Nat)).toNat else min (-2:Int).toNat (xs++ [u,v]).length)=xs.length
  rw[if_pos (by decide)]
  simp
  omega
 unfold G9
 rw[h,HT.sIx_none]
 simp
section
variable{P:Program}{w:World}{K:FZ}{mg:Str->Option Value}{base:Heap}{C f:Addr}{fd:FuncData}{mf:Str->Addr}{md:Str->FuncData}{ON O9 R4 LS UA:Addr}{OZ O8 Q9 KS UF:FuncData}
inductive spTDW(vs:List V)(H:Hp)(Q:VK):Prop
 |mk:∀(fr:Addr) (k at_:Int) (sl st:List V) (g:Nat) (a b:Int),(vs=[.ref fr,.str (NM.sg g)])->(FrAt H fr k at_ sl (st++ [.int a,.int b]))->(st.length<=100)->(g<6)->(Bd a)->(Bd b)->((∀v p q H',NM.tw g a b=[.str "value",v]->Same H H'->H' p=some (.tup [.str "frame",.ref q])->FrAt H' q k (at_+1) sl (st++ [v])->Q (.ref p) H'))->((∀w p H',NM.tw g a b=[.str "refused",.str w]->Same H H'->H' p=some (.tup [.str "refused",.str w])->Q (.ref p) H'))->spTDW vs H Q
noncomputable def cMZ:Sp:=λvs H Q _=>spTDW vs H Q
theorem ok_two_done(F:Fun K "two_done" "two_done" s_two_done f fd)
  (AK:Cn P w K mg base CX0 2 "two_told" VZ NM.spTwo)
  (D6:Cn P w K mg base CX0 1 "behind" MS DG):
  FnOk P w K mg base CX0 3 f fd ["frame","sign"] cMZ:=by
 obtain⟨ON,OZ,AK,NQ,NV,OY⟩:=AK
 obtain⟨O9,O8,D6,J8,J7,J6⟩:=D6
 refine F.ok sc_two_done (λvs H Q E h=> ?_) (λcdv A outer s H vs Q E hr h=> ?_)
 ·obtain⟨fr,k,at_,sl,st,g,a,b,rfl,_⟩:=h
  rfl
 obtain⟨fr,k,at_,sl,st,g,a,b,rfl,hF,hz,hg,ha,hb,q1,q2⟩:=h
 have nd:=sc_two_done.nd
 have hu:=hr.units0
 obtain⟨q0,e0,h1,h2,h3⟩:=id hF
 refine⟨_,(A6 (C5 (i:=2) nd rfl (Or.inl rfl) (ixE K w (pv 0) A5))
   (A6 (C5 (i:=3) nd rfl (Or.inl rfl) (B1 AK (hr.mono (by omega)) rfl OY NV NQ .nil B8 (A0 (pv 1) (A0 (ixE K w (pv 2) (J0 E4 A5)) (A0 (ixE K w (pv 2) (J0 E4 A5)) A4)))))
   (A6 (C8 (B2 (kEq (K:=K) hu) (ixE K w (pv 3) A5) A8 rfl) (A7 (B5 (pv 3))) C1)
   (A7 (B5 (B7 (A0 A8 (A0 (B1 D6 (hr.mono (by omega)) rfl J6 J7 J8 .nil B8 (A0 (pv 0) (A0 A5 (A0 (G5 (W7 (K:=K)) (pv 3) (J3 A5) K4) A4)))) A4)))))))), ?_⟩
 refine⟨_,rfl,(ixT h1 rfl ?_)⟩
 refine⟨_,rfl,_,rfl,_,rfl,(ixT h3 (TC _ _ _) ⟨_,rfl,_,rfl,(ixT h3 (dsZ _ _ _) ⟨g,a,b,rfl,hg,ha.mul hb,hb.log,λr H1 s1 hr1=> ?_⟩)⟩)⟩
 rcases XI hg a b with⟨v,hv,e⟩|⟨wd',e⟩
 ·rw[e]at hr1
  refine⟨_,rfl,(ixT hr1 rfl (.inl ⟨rfl,_,rfl,ifF (by decide) ?_⟩))⟩
  refine⟨_,rfl,_,rfl,1,rfl,T0 hr1 λt H2 s2 ht=> ?_⟩
  have e1:G9 [V.str "value",v] (some 1) none=[v]:=FU _ 1
  rw[e1]at ht
  refine⟨fr,k,at_,sl,_,2,t,[v],rfl,hF.mono (B6 (s1.trans s2)),by simp,ht,by simp;omega,λq H3 s3 hq=>⟨P9,λp hp=> ?_⟩⟩
  have e2:(st++ [V.int a,.int b]).take ((st++ [V.int a,.int b]).length - 2)=st:=by simp
  rw[e2]at hq
  have s4:=A3 hp (.tup [.str "frame",.ref q])
  exact q1 v p q _ e (s1.trans (s2.trans (s3.trans s4))) A2 (hq.mono (B6 s4))
 ·rw[e]at hr1
  refine⟨_,rfl,(ixT hr1 rfl (.inl ⟨rfl,_,rfl,ifT (by decide) ?_⟩))⟩
  exact⟨_,rfl,q2 wd' r H1 e s1 hr1⟩
inductive spPDW (C:Addr) (vs:List V) (H:Hp) (Q:VK):Prop
 |mk:∀(o L:Addr) (us:List V) (fr:Addr) (k at_:Int) (sl st:List V) (x:V) (tl:Bool),(vs=[.ref o,.ref fr,.str (if tl=true then "tail"else "head")])->(CAt C H o L us)->(FrAt H fr k at_ sl (st++ [x]))->(st.length<=100)->(((x=.non/\∀p H',Same H H'->H' p=some (.tup [.str "refused",.str (if tl=true then "tail"else "head")])->Q (.ref p) H')\/(∃(cv c:Addr) (j:Nat) (h t:V),x=.ref cv/\H cv=some (.tup [.str "cell",.int (j:Nat)])/\us[j]? =some (.ref c)/\H c=some (.tup [.str "pair",h,t])/\∀p q H',Same H H'->H' p=some (.tup [.str "frame",.ref q])->FrAt H' q k (at_+1) sl (st++ [if tl=true then t else h])->Q (.ref p) H')))->spPDW C vs H Q
noncomputable def c7Z(C:Addr):Sp:=λvs H Q _=>spPDW C vs H Q
theorem ok_part_done(F:Fun K "part_done" "part_done" s_part_done f fd)(RC:RCls K C mf md)(OQ:FnOk P w K mg base CX0 1 (mf "at") (md "at") GZ (aXZ C))
  (D6:Cn P w K mg base CX0 1 "behind" MS DG):
  FnOk P w K mg base CX0 2 f fd bKZ (c7Z C):=by
 obtain⟨O9,O8,D6,J8,J7,J6⟩:=D6
 refine F.ok sc_part_done (λvs H Q E h=> ?_) (λcdv A outer s H vs Q E hr h=> ?_)
 ·obtain⟨o,L,us,fr,k,at_,sl,st,x,tl,rfl,_⟩:=h
  rfl
 obtain⟨o,L,us,fr,k,at_,sl,st,x,tl,rfl,hC,hF,hz,hor⟩:=h
 have nd:=sc_part_done.nd
 have hu:=hr.units0
 obtain⟨q0,e0,h1,h2,h3⟩:=id hF
 obtain⟨dx,i1,i2⟩:=id hC
 refine⟨_,(A6 (C5 (i:=3) nd rfl (Or.inl rfl) (ixE K w (ixE K w (pv 1) A5) (J0 E4 A5)))
   (A6 (C8 (B2 RN (pv 3) N7 rfl) (A7 (B5 (B7 (A0 A8 (A0 (pv 2) A4))))) C1)
   (A6 (C5 (i:=4) nd rfl (Or.inl rfl) (O1 (pv 0) RC.cl RC.m_at OQ (hr.mono (by omega)) RC.b_at .nil B8 (A0 (pv 3) A4)))
   (A7 (B5 (B7 (A0 A8 (A0 (B1 D6 (hr.mono (by omega)) rfl J6 J7 J8 .nil B8 (A0 (pv 1) (A0 A5 (A0 (B7 (A0 (Q4 (B2 (kEq (K:=K) hu) (pv 2) A8 rfl) (ixE K w (pv 4) A5) (ixE K w (pv 4) A5)) A4)) A4)))) A4)))))))), ?_⟩
 refine⟨_,rfl,(ixT h1 rfl ⟨_,rfl,(ixT h3 (G0 _ _) ?_)⟩)⟩
 rcases hor with⟨rfl,q⟩|⟨cv,c,j,hh,tt,rfl,hcv,hj,hc,q⟩
 ·exact⟨_,rfl,rfl,_,rfl,ifT (by decide) ⟨_,rfl,P9,λp hp=>q p _ (A3 hp _) A2⟩⟩
 ·refine⟨_,rfl,rfl,_,rfl,ifF (by simp) ?_⟩
  refine⟨_,rfl,o,dx,_,rfl,i1,rfl,_,rfl,o,L,us,cv,j,_,rfl,hC,hcv,hj, ?_⟩
  have e2:(st++ [V.ref cv]).take ((st++ [V.ref cv]).length - 1)=st:=by simp
  cases tl with
  |false=>
   refine⟨_,rfl,_,rfl,.inl ⟨rfl,_,rfl,ifT (by decide) ⟨_,rfl,(ixT hc rfl ⟨CF,λt1 ht1=> ?_⟩)⟩⟩⟩
   have s1:=A3 ht1 (.tup [hh])
   refine⟨fr,k,at_,sl,_,1,t1,[hh],rfl,hF.mono (B6 s1),by simp,A2,by simp;omega,λq1 H3 s3 hq=>⟨P9,λp hp=> ?_⟩⟩
   rw[e2]at hq
   have s4:=A3 hp (.tup [.str "frame",.ref q1])
   exact q p q1 _ (s1.trans (s3.trans s4)) A2 (hq.mono (B6 s4))
  |true=>
   refine⟨_,rfl,_,rfl,.inl ⟨rfl,_,rfl,ifF (by decide) ⟨_,rfl,(ixT hc rfl ⟨CF,λt1 ht1=> ?_⟩)⟩⟩⟩
   have s1:=A3 ht1 (.tup [tt])
   refine⟨fr,k,at_,sl,_,1,t1,[tt],rfl,hF.mono (B6 s1),by simp,A2,by simp;omega,λq1 H3 s3 hq=>⟨P9,λp hp=> ?_⟩⟩
   rw[e2]at hq
   have s4:=A3 hp (.tup [.str "frame",.ref q1])
   exact q p q1 _ (s1.trans (s3.trans s4)) A2 (hq.mono (B6 s4))
inductive spNCW (C:Addr) (vs:List V) (H:Hp) (Q:VK):Prop
 |mk:∀(o L:Addr) (us:List V) (fr:Addr) (k at_:Int) (sl st:List V) (r:Addr),(vs=[.ref o,.ref fr,.ref r])->(CAt C H o L us)->(us.length<=500)->(st.length<=100)->(((∃x y,H r=some (.tup [.str "cons"])/\FrAt H fr k at_ sl (st++ [x,y])/\∀q c cv H',Bt L H H'->CAt C H' o L (us++ [.ref c])->H' c=some (.tup [.str "pair",x,y])->H' cv=some (.tup [.str "cell",.int (us.length:Nat)])->FrAt H' q k (at_+1) sl (st++ [.ref cv])->Q (.ref q) H')\/(∃(b n:Nat) (xs:List V),H r=some (.tup [.str "close",.int (b:Nat),.int (n:Nat)])/\FrAt H fr k at_ sl (st++xs)/\xs.length=n/\n<=100/\∀q c cv vt H',Bt L H H'->CAt C H' o L (us++ [.ref c])->H' c=some (.tup [.str "fn",.int (b:Nat),.ref vt])->H' vt=some (.tup xs)->H' cv=some (.tup [.str "cell",.int (us.length:Nat)])->FrAt H' q k (at_+1) sl (st++ [.ref cv])->Q (.ref q) H')))->spNCW C vs H Q
noncomputable def doZ(C:Addr):Sp:=λvs H Q _=>spNCW C vs H Q
theorem ok_with_new_cell(F:Fun K "with_new_cell" "with_new_cell" s_with_new_cell f fd)(RC:RCls K C mf md)(RP:FnOk P w K mg base CX0 1 (mf "put") (md "put") WP (YG C))
  (D6:Cn P w K mg base CX0 1 "behind" MS DG)
  (M5:Cn P w K mg base CX0 1 "top_values" aZZ WY):
  FnOk P w K mg base CX0 2 f fd QN (doZ C):=by
 obtain⟨O9,O8,D6,J8,J7,J6⟩:=D6
 obtain⟨R4,Q9,M5,V0,V2,U7⟩:=M5
 refine F.ok sc_with_new_cell (λvs H Q E h=> ?_) (λcdv A outer s H vs Q E hr h=> ?_)
 ·obtain⟨o,L,us,fr,k,at_,sl,st,r,rfl,_⟩:=h
  rfl
 obtain⟨o,L,us,fr,k,at_,sl,st,r,rfl,hC,hul,hz,hor⟩:=h
 have nd:=sc_with_new_cell.nd
 have hu:=hr.units0
 obtain⟨dx,i1,i2⟩:=id hC
 refine⟨_,(A6 (C5 (i:=3) nd rfl (Or.inl rfl) (ixE K w (pv 1) A5))
   (A6 (C8 (B2 (kEq (K:=K) hu) (ixE K w (pv 2) A5) A8 rfl) (A7 (B5 (B1 D6 (hr.mono (by omega)) rfl J6 J7 J8 .nil B8 (A0 (pv 1) (A0 A5 (A0 (B7 (A0 (O1 (pv 0) RC.cl RC.m_put RP (hr.mono (by omega)) RC.b_put .nil B8 (A0 (B4 (M2 (K:=K)) (B7 (A0 A8 A4)) (G5 (W7 (K:=K)) (pv 3) (J3 (J0 E4 A5)) K4)) A4)) A4)) A4)))))) C1)
   (A6 (C5 (i:=4) nd rfl (Or.inl rfl) (ixE K w (pv 2) A5))
   (A7 (B5 (B1 D6 (hr.mono (by omega)) rfl J6 J7 J8 .nil B8 (A0 (pv 1) (A0 (pv 4) (A0 (B7 (A0 (O1 (pv 0) RC.cl RC.m_put RP (hr.mono (by omega)) RC.b_put .nil B8 (A0 (B7 (A0 A8 (A0 (ixE K w (pv 2) A5) (A0 (B1 M5 (hr.mono (by omega)) rfl U7 V2 V0 .nil B8 (A0 (pv 3) (A0 (pv 4) A4))) A4)))) A4)) A4)) A4))))))))), ?_⟩
 rcases hor with⟨x,y,hr1,hF,q⟩|⟨b,n,xs,hr1,hF,hn,hn1,q⟩
 ·obtain⟨q0,e0,h1,h2,h3⟩:=id hF
  refine⟨_,rfl,(ixT h1 rfl ?_)⟩
  refine⟨_,rfl,(ixT hr1 rfl (.inl ⟨rfl,_,rfl,ifT (by decide) ?_⟩))⟩
  refine⟨_,rfl,_,rfl,o,dx,_,rfl,i1,rfl,CF,λt1 ht1=> ?_⟩
  have s1:=A3 ht1 (.tup [.str "pair"])
  refine⟨_,rfl,_,rfl,_,rfl,T0 (s1 _ _ h3) λt2 H2 s2 ht2=> ?_⟩
  rw[RK]at ht2
  refine .inr (.inr (Q1 (s2 _ _ A2) ht2 (by simp) λt3 H3 s3 ht3=> ?_))
  have s13:=s1.trans (s2.trans s3)
  refine⟨o,L,us,_,rfl,hC.same s13,by omega,λcv H4 hcv0 k4 hC4 hcv=>⟨CF,λt5 ht5=> ?_⟩⟩
  have m4:Mo H3 H4:=k4.tups (s13 _ _ i2)
  have s5:=A3 ht5 (.tup [.ref cv])
  refine⟨fr,k,at_,sl,_,2,t5,[.ref cv],rfl,((hF.mono (B6 s13)).mono m4).mono (B6 s5),by simp,A2,by simp;omega,λq1 H6 s6 hq=> ?_⟩
  have e2:(st++ [x,y]).take ((st++ [x,y]).length - 2)=st:=by simp
  rw[e2]at hq
  have s56:=s5.trans s6
  exact q q1 t3 cv H6 (λb o' hb hne=>s56 _ _ (k4 _ _ (s13 _ _ hb) hne)) (hC4.same s56) (s56 _ _ (m4 _ _ ht3)) (s56 _ _ hcv) hq
 ·obtain⟨q0,e0,h1,h2,h3⟩:=id hF
  refine⟨_,rfl,(ixT h1 rfl ?_)⟩
  refine⟨_,rfl,(ixT hr1 rfl (.inl ⟨rfl,_,rfl,ifF (by decide) ?_⟩))⟩
  refine⟨_,rfl,(ixT hr1 rfl ?_)⟩
  refine⟨_,rfl,_,rfl,_,rfl,o,dx,_,rfl,i1,rfl,_,rfl,(ixT hr1 rfl ⟨_,rfl,_,rfl,e0,st++xs,n,rfl,h3,by simp;omega,λvt H2 s2 hvt=>⟨XC,λt3 ht3=> ?_⟩⟩)⟩
  have e1:(st++xs).drop ((st++xs).length - n)=xs:=by
   have:(st++xs).length - n=st.length:=by simp;omega
   rw[this,List.drop_left]
  rw[e1]at hvt
  have s3:=A3 ht3 (.tup [.str "fn",.int (b:Nat),.ref vt])
  have s13:=s2.trans s3
  refine⟨o,L,us,_,rfl,hC.same s13,by omega,λcv H4 hcv0 k4 hC4 hcv=>⟨CF,λt5 ht5=> ?_⟩⟩
  have m4:Mo _ H4:=k4.tups (s13 _ _ i2)
  have s5:=A3 ht5 (.tup [.ref cv])
  refine⟨fr,k,at_,sl,_,n,t5,[.ref cv],rfl,((hF.mono (B6 s13)).mono m4).mono (B6 s5),by simp;omega,A2,by simp;omega,λq1 H6 s6 hq=> ?_⟩
  have e2:(st++xs).take ((st++xs).length - n)=st:=by
   have:(st++xs).length - n=st.length:=by simp;omega
   rw[this,List.take_left]
  rw[e2]at hq
  have s56:=s5.trans s6
  exact q q1 t3 cv vt H6 (λb o' hb hne=>s56 _ _ (k4 _ _ (s13 _ _ hb) hne)) (hC4.same s56) (s56 _ _ (m4 _ _ A2)) (s56 _ _ (m4 _ _ (s3 _ _ hvt))) (s56 _ _ hcv) hq
inductive spWSW (vs:List V) (H:Hp) (Q:VK):Prop
 |mk:∀(fr:Addr) (k at_:Int) (sl st:List V) (j:Nat) (v:V),(vs=[.ref fr,.int (j:Nat),v])->(FrAt H fr k at_ sl st)->(sl.length<=500)->(∀p H',Same H H'->FrAt H' p k at_ (sl.take j++ [v]++sl.drop (j+1)) st->Q (.ref p) H')->spWSW vs H Q
noncomputable def dAZ:Sp:=λvs H Q _=>spWSW vs H Q
theorem ok_with_slot(F:Fun K "with_slot" "with_slot" s_with_slot f fd):FnOk P w K mg base CX0 1 f fd czZ dAZ:=by
 refine F.ok sc_with_slot (λvs H Q E h=> ?_) (λcdv A outer s H vs Q E hr h=> ?_)
 ·obtain⟨fr,k,at_,sl,st,j,v,rfl,_⟩:=h
  rfl
 obtain⟨fr,k,at_,sl,st,j,v,rfl,⟨q0,e0,h1,h2,h3⟩,hz,q⟩:=h
 have nd:=sc_with_slot.nd
 refine⟨_,(A6 (C5 (i:=3) nd rfl (Or.inl rfl) (ixE K w (pv 0) A5))
   (A7 (B5 (B7 (A0 (ixE K w (pv 0) A5) (A0 (ixE K w (pv 0) A5) (A0 (B4 (M2 (K:=K)) (B4 (M2 (K:=K)) (G5 (W7 (K:=K)) (pv 3) K4 (J3 (pv 1))) (B7 (A0 (pv 2) A4))) (G5 (W7 (K:=K)) (pv 3) (J3 (B4 (M2 (K:=K)) (pv 1) A5)) K4)) (A0 (ixE K w (pv 0) A5) A4)))))))), ?_⟩
 refine⟨_,rfl,(ixT h1 rfl ?_)⟩
 refine⟨_,rfl,(ixT h1 rfl ⟨_,rfl,(ixT h1 rfl ?_)⟩)⟩
 refine⟨_,rfl,_,rfl,_,rfl,T0 h2 λt1 H1 s1 ht1=>⟨_,rfl,CF,λt2 ht2=> ?_⟩⟩
 have e1:G9 sl none (some ((j:Nat):Int))=sl.take j:=PK _ _
 rw[e1]at ht1
 have s2:=A3 ht2 (.tup [v])
 refine .inr (.inr (Q1 (s2 _ _ ht1) A2 (by simp;omega) λt3 H3 s3 ht3=> ?_))
 have s13:=s1.trans (s2.trans s3)
 refine⟨_,rfl,_,rfl,.inl ⟨_,_,rfl,rfl,_,rfl,T0 (s13 _ _ h2) λt4 H4 s4 ht4=> ?_⟩⟩
 have e2:G9 sl (some (((j:Nat):Int)+1)) none=sl.drop (j+1):=FU sl (j+1)
 rw[e2]at ht4
 refine .inr (.inr (Q1 (s4 _ _ ht3) ht4 (by simp;omega) λt5 H5 s5 ht5=> ?_))
 have s15:=s13.trans (s4.trans s5)
 refine⟨_,rfl,(ixT (s15 _ _ h1) rfl ⟨EX,λp hp=> ?_⟩)⟩
 have s6:=A3 hp (.tup [.int k,.int at_,.ref t5,.ref e0])
 exact q p _ (s15.trans s6) ⟨t5,e0,A2,s6 _ _ ht5,s6 _ _ (s15 _ _ h3)⟩
inductive spFuW (vs:List V) (H:Hp) (Q:VK):Prop
 |mk:∀(fr:Addr) (k at_:Int) (sl st:List V) (m:Int),(vs=[.ref fr,.int m])->(FrAt H fr k at_ sl st)->(∀p H',Same H H'->FrAt H' p k (at_+m) sl st->Q (.ref p) H')->spFuW vs H Q
noncomputable def cGZ:Sp:=λvs H Q _=>spFuW vs H Q
theorem ok_further(F:Fun K "further" "further" s_further f fd):FnOk P w K mg base CX0 1 f fd cpZ cGZ:=by
 refine F.ok sc_further (λvs H Q E h=> ?_) (λcdv A outer s H vs Q E hr h=> ?_)
 ·obtain⟨fr,k,at_,sl,st,m,rfl,_⟩:=h
  rfl
 obtain⟨fr,k,at_,sl,st,m,rfl,⟨q0,e0,h1,h2,h3⟩,q⟩:=h
 have nd:=sc_further.nd
 refine⟨_,(A7 (B5 (B7 (A0 (ixE K w (pv 0) A5) (A0 (B4 (M2 (K:=K)) (ixE K w (pv 0) A5) (pv 1)) (A0 (ixE K w (pv 0) A5) (A0 (ixE K w (pv 0) A5) A4))))))), ?_⟩
 refine⟨_,rfl,(ixT h1 rfl ⟨_,rfl,(ixT h1 rfl ⟨_,rfl,.inl ⟨_,_,rfl,rfl,_,rfl,(ixT h1 rfl ⟨_,rfl,(ixT h1 rfl ⟨EX,λp hp=> ?_⟩)⟩)⟩⟩)⟩)⟩
 have s6:=A3 hp (.tup [.int k,.int (at_+m),.ref q0,.ref e0])
 exact q p _ s6 ⟨q0,e0,A2,s6 _ _ h2,s6 _ _ h3⟩
inductive spVPW (vs:List V) (H:Hp) (Q:VK):Prop
 |mk:∀(fr:Addr) (k at_:Int) (sl st:List V) (r:Addr),(vs=[.ref fr,.ref r])->(FrAt H fr k at_ sl st)->(((∃v,H r=some (.tup [.str "push",v])/\Q v H)\/(H r=some (.tup [.str "none"])/\Q .non H)\/(∃(j:Nat) (v:V),H r=some (.tup [.str "load",.int (j:Nat)])/\sl[j]? =some v/\Q v H)))->spVPW vs H Q
noncomputable def cOZ:Sp:=λvs H Q _=>spVPW vs H Q
theorem ok_value_put(F:Fun K "value_put" "value_put" s_value_put f fd):FnOk P w K mg base CX0 1 f fd WC cOZ:=by
 refine F.ok sc_value_put (λvs H Q E h=> ?_) (λcdv A outer s H vs Q E hr h=> ?_)
 ·obtain⟨fr,k,at_,sl,st,r,rfl,_⟩:=h
  rfl
 obtain⟨fr,k,at_,sl,st,r,rfl,⟨q0,e0,h1,h2,h3⟩,hor⟩:=h
 have nd:=sc_value_put.nd
 have hu:=hr.units0
 refine⟨_,(A6 (C8 (B2 (kEq (K:=K) hu) (ixE K w (pv 1) A5) A8 rfl) (A7 (B5 (ixE K w (pv 1) A5))) C1)
   (A7 (B5 (Q4 (B2 (kEq (K:=K) hu) (ixE K w (pv 1) A5) A8 rfl) (ixE K w (ixE K w (pv 0) A5) (ixE K w (pv 1) A5)) N7)))), ?_⟩
 rcases hor with⟨v,hr1,q⟩|⟨hr1,q⟩|⟨j,v,hr1,hj,q⟩
 ·exact⟨_,rfl,(ixT hr1 rfl (.inl ⟨rfl,_,rfl,ifT (by decide) ⟨_,rfl,(ixT hr1 rfl q)⟩⟩))⟩
 ·exact⟨_,rfl,(ixT hr1 rfl (.inl ⟨rfl,_,rfl,ifF (by decide) ⟨_,rfl,(ixT hr1 rfl (.inl ⟨rfl,_,rfl,ifF (by decide) q⟩))⟩⟩))⟩
 ·exact⟨_,rfl,(ixT hr1 rfl (.inl ⟨rfl,_,rfl,ifF (by decide) ⟨_,rfl,(ixT hr1 rfl (.inl ⟨rfl,_,rfl,ifT (by decide) ⟨_,rfl,(ixT h1 rfl ⟨_,rfl,(ixT hr1 rfl (.inr (.inl ⟨q0,sl,_,_,rfl,rfl,SqT.of h2,C9 hj,q⟩)))⟩)⟩⟩))⟩⟩))⟩
inductive spNPW (vs:List V) (H:Hp) (Q:VK):Prop
 |mk:∀(fr:Addr) (k at_:Int) (sl st:List V) (r:Addr),(vs=[.ref fr,.ref r])->(FrAt H fr k at_ sl st)->(st.length<=100)->(sl.length<=500)->(((∃(j:Nat) (st':List V) (v:V),H r=some (.tup [.str "keep",.int (j:Nat)])/\st=st'++ [v]/\∀p H',Same H H'->FrAt H' p k (at_+1) (sl.take j++ [v]++sl.drop (j+1)) st'->Q (.ref p) H')\/(∃n:Nat,H r=some (.tup [.str "skip",.int (n:Nat)])/\∀p H',Same H H'->FrAt H' p k (at_+1+(n:Nat)) sl st->Q (.ref p) H')\/(∃(n:Nat) (st':List V) (b:Bool),H r=some (.tup [.str "unless",.int (n:Nat)])/\st=st'++ [.bl b]/\∀p H',Same H H'->FrAt H' p k (at_+1+if b=true then 0 else(n:Int)) sl st'->Q (.ref p) H')))->spNPW vs H Q
noncomputable def ddZ:Sp:=λvs H Q _=>spNPW vs H Q
theorem ok_with_nothing_put(F:Fun K "with_nothing_put" "with_nothing_put" s_with_nothing_put f fd)
  (D6:Cn P w K mg base CX0 1 "behind" MS DG)
  (X1:Cn P w K mg base CX0 1 "with_slot" czZ dAZ)
  (Y9:Cn P w K mg base CX0 1 "further" cpZ cGZ):
  FnOk P w K mg base CX0 2 f fd WC ddZ:=by
 obtain⟨O9,O8,D6,J8,J7,J6⟩:=D6
 obtain⟨LS,KS,X1,LB,KR,KU⟩:=X1
 obtain⟨UA,UF,Y9,HG,HJ,HF⟩:=Y9
 refine F.ok sc_with_nothing_put (λvs H Q E h=> ?_) (λcdv A outer s H vs Q E hr h=> ?_)
 ·obtain⟨fr,k,at_,sl,st,r,rfl,_⟩:=h
  rfl
 obtain⟨fr,k,at_,sl,st,r,rfl,hF,hz,hsl,hor⟩:=h
 have nd:=sc_with_nothing_put.nd
 have hu:=hr.units0
 obtain⟨q0,e0,h1,h2,h3⟩:=id hF
 refine⟨_,(A6 (C8 (B2 (kEq (K:=K) hu) (ixE K w (pv 1) A5) A8 rfl) (A7 (B5 (B1 X1 (hr.mono (by omega)) rfl KU KR LB .nil B8 (A0 (B1 D6 (hr.mono (by omega)) rfl J6 J7 J8 .nil B8 (A0 (pv 0) (A0 A5 (A0 (B7 A4) A4)))) (A0 (ixE K w (pv 1) A5) (A0 (ixE K w (ixE K w (pv 0) A5) (J0 E4 A5)) A4)))))) C1)
   (A6 (C8 (B2 (kEq (K:=K) hu) (ixE K w (pv 1) A5) A8 rfl) (A7 (B5 (B1 Y9 (hr.mono (by omega)) rfl HF HJ HG .nil B8 (A0 (B1 D6 (hr.mono (by omega)) rfl J6 J7 J8 .nil B8 (A0 (pv 0) (A0 A5 (A0 (B7 A4) A4)))) (A0 (ixE K w (pv 1) A5) A4))))) C1)
   (A7 (B5 (B1 Y9 (hr.mono (by omega)) rfl HF HJ HG .nil B8 (A0 (B1 D6 (hr.mono (by omega)) rfl J6 J7 J8 .nil B8 (A0 (pv 0) (A0 A5 (A0 (B7 A4) A4)))) (A0 (Q4 (N1 (K:=K) (ixE K w (ixE K w (pv 0) A5) (J0 E4 A5)) (λ_=>rfl)) A5 (ixE K w (pv 1) A5)) A4))))))), ?_⟩
 rcases hor with⟨j,st',v,hr1,rfl,q⟩|⟨n,hr1,q⟩|⟨n,st',b,hr1,rfl,q⟩
 ·refine⟨_,rfl,(ixT hr1 rfl (.inl ⟨rfl,_,rfl,ifT (by decide) ?_⟩))⟩
  refine⟨_,rfl,EW,λe he=> ?_⟩
  have s1:=A3 he (.tup [])
  refine⟨fr,k,at_,sl,_,1,e,[],rfl,hF.mono (B6 s1),by simp,A2,by simp at hz⊢;omega,λp1 H1 s2 hp1=> ?_⟩
  have e2:(st'++ [v]).take ((st'++ [v]).length - 1)++ []=st':=by simp
  rw[e2]at hp1
  have s12:=s1.trans s2
  refine⟨_,rfl,(ixT (s12 _ _ hr1) rfl ⟨_,rfl,(ixT (s12 _ _ h1) rfl ⟨_,rfl,(ixT (s12 _ _ h3) (G0 _ _) ?_)⟩)⟩)⟩
  exact⟨p1,k,at_+1,sl,st',j,v,rfl,hp1,hsl,λp H3 s3 hp=>q p H3 (s12.trans s3) hp⟩
 ·refine⟨_,rfl,(ixT hr1 rfl (.inl ⟨rfl,_,rfl,ifF (by decide) ?_⟩))⟩
  refine⟨_,rfl,(ixT hr1 rfl (.inl ⟨rfl,_,rfl,ifT (by decide) ?_⟩))⟩
  refine⟨_,rfl,EW,λe he=> ?_⟩
  have s1:=A3 he (.tup [])
  refine⟨fr,k,at_,sl,_,0,e,[],rfl,hF.mono (B6 s1),zero_le _,A2,by simp;omega,λp1 H1 s2 hp1=> ?_⟩
  have e2:st.take (st.length - 0)++ []=st:=by simp
  rw[e2]at hp1
  have s12:=s1.trans s2
  refine⟨_,rfl,(ixT (s12 _ _ hr1) rfl ?_)⟩
  exact⟨p1,k,at_+1,sl,st,_,rfl,hp1,λp H3 s3 hp=>q p H3 (s12.trans s3) hp⟩
 ·refine⟨_,rfl,(ixT hr1 rfl (.inl ⟨rfl,_,rfl,ifF (by decide) ?_⟩))⟩
  refine⟨_,rfl,(ixT hr1 rfl (.inl ⟨rfl,_,rfl,ifF (by decide) ?_⟩))⟩
  refine⟨_,rfl,EW,λe he=> ?_⟩
  have s1:=A3 he (.tup [])
  refine⟨fr,k,at_,sl,_,1,e,[],rfl,hF.mono (B6 s1),by simp,A2,by simp at hz⊢;omega,λp1 H1 s2 hp1=> ?_⟩
  have e2:(st'++ [V.bl b]).take ((st'++ [V.bl b]).length - 1)++ []=st':=by simp
  rw[e2]at hp1
  have s12:=s1.trans s2
  refine⟨_,rfl,(ixT (s12 _ _ h1) rfl ⟨_,rfl,(ixT (s12 _ _ h3) (G0 _ _) ⟨b,rfl, ?_⟩)⟩)⟩
  cases b with
  |true=>exact ifT rfl ⟨p1,k,at_+1,sl,st',_,rfl,hp1,λp H3 s3 hp=>q p H3 (s12.trans s3) hp⟩
  |false=>exact ifF nZ ⟨_,rfl,(ixT (s12 _ _ hr1) rfl ⟨p1,k,at_+1,sl,st',_,rfl,hp1,λp H3 s3 hp=>q p H3 (s12.trans s3) hp⟩)⟩
end
noncomputable abbrev s_own_done:Stmt:=top 18
noncomputable abbrev PP:List Str:=["cells","frame","row","word","top"]
theorem sc_own_done:FnScope PP QN (A9 s_own_done):=fS
noncomputable def RS:List (Str×V):=[("add",.str "+"),("sub",.str "-"),("mul",.str "*"),("div",.str "/"),("less",.str "<"),("same",.str "=")]
noncomputable def T9:Rk->Str
 | .push _=> "push"| .non=> "none"| .load _=> "load"| .keep _=> "keep"| .two k=>wd k| .cons=> "cons"| .head=> "head"| .tail=> "tail"| .empty=> "empty"| .not=> "not"| .skip _=> "skip"| .unless _=> "unless"| .close _ _=> "close"
theorem HL(rk:Rk):atI (rkV rk) 0=some (.str (T9 rk)):=by cases rk<;>rfl
theorem LZ:∀k:Nat,(RS.lookup (wd k)).isSome=true
 |0=>by decide|1=>by decide|2=>by decide|3=>by decide|4=>by decide|n+5=>by show(List.lookup ("div":Str) RS).isSome=true;decide
theorem bsZ{k:Nat}(h:k<6):RS.lookup (wd k)=some (.str (NM.sg k)):=by
 have hk:k=0\/k=1\/k=2\/k=3\/k=4\/k=5:=by omega
 rcases hk with rfl|rfl|rfl|rfl|rfl|rfl<;>rfl
section
variable{P:Program}{w:World}{K:FZ}{mg:Str->Option Value}{base:Heap}{C f rs:Addr}{fd:FuncData}{mf:Str->Addr}{md:Str->FuncData}{PC KW DP AL LQ O9:Addr}{PD LJ DL AQ LN O8:FuncData}
noncomputable def bgZ(C:Addr)(H:Hp)(Q:VK)(o L:Addr)(us:List V)(k at_:Int)(sl:List V):Eo->Prop
 | .fr d sl' st'=>∀p q H',Same H H'->H' p=some (.tup [.str "frame",.ref q])->FrAt H' q k (at_+d) sl' st'->Q (.ref p) H'
 | .rf w=>∀p H',Same H H'->H' p=some (.tup [.str "refused",.str w])->Q (.ref p) H'
 | .pair st' x y=>∀p q c cv H',Bt L H H'->CAt C H' o L (us++ [.ref c])->H' c=some (.tup [.str "pair",x,y])->H' cv=some (.tup [.str "cell",.int (us.length:Nat)])->H' p=some (.tup [.str "frame",.ref q])->FrAt H' q k (at_+1) sl (st'++ [.ref cv])->Q (.ref p) H'
 | .fn st' b xs=>∀p q c cv vt H',Bt L H H'->CAt C H' o L (us++ [.ref c])->H' c=some (.tup [.str "fn",.int (b:Nat),.ref vt])->H' vt=some (.tup xs)->H' cv=some (.tup [.str "cell",.int (us.length:Nat)])->H' p=some (.tup [.str "frame",.ref q])->FrAt H' q k (at_+1) sl (st'++ [.ref cv])->Q (.ref p) H'
inductive spOwnW (C:Addr) (vs:List V) (H:Hp) (Q:VK):Prop
 |mk:∀(o L:Addr) (us:List V) (fr:Addr) (k at_:Int) (sl st:List V) (r:Addr) (rk:Rk) (eo:Eo),(vs=[.ref o,.ref fr,.ref r])->(CAt C H o L us)->(us.length<=500)->(FrAt H fr k at_ sl st)->(st.length<=100)->(sl.length<=100)->(H r=some (.tup (rkV rk)))->(Ef H us sl rk st eo)->(bgZ C H Q o L us k at_ sl eo)->spOwnW C vs H Q
noncomputable def XY(C:Addr):Sp:=λvs H Q _=>spOwnW C vs H Q
theorem ok_own_done(F:Fun K "own_done" "own_done" s_own_done f fd)(TD:TopD w K rs RS)(m_ROW_SIGNS:mg "ROW_SIGNS"=some (.ref rs))
  (AI:Cn P w K mg base CX0 3 "two_done" ["frame","sign"] cMZ)
  (W9:Cn P w K mg base CX0 2 "part_done" bKZ (c7Z C))
  (Q6:Cn P w K mg base CX0 2 "with_new_cell" QN (doZ C))
  (O3:Cn P w K mg base CX0 2 "with_nothing_put" WC ddZ)
  (X2:Cn P w K mg base CX0 1 "value_put" WC cOZ)
  (D6:Cn P w K mg base CX0 1 "behind" MS DG):
  FnOk P w K mg base CX0 4 f fd QN (XY C):=by
 obtain⟨PC,PD,AI,OI,OP,OG⟩:=AI
 obtain⟨KW,LJ,W9,LK,LD,LV⟩:=W9
 obtain⟨DP,DL,Q6,DK,DO,DS⟩:=Q6
 obtain⟨AL,AQ,O3,AE,AG,AM⟩:=O3
 obtain⟨LQ,LN,X2,KO,KZ,LI⟩:=X2
 obtain⟨O9,O8,D6,J8,J7,J6⟩:=D6
 refine F.ok sc_own_done (λvs H Q E h=> ?_) (λcdv A outer s H vs Q E hr h=> ?_)
 ·obtain⟨o,L,us,fr,k,at_,sl,st,r,rk,eo,rfl,_⟩:=h
  rfl
 obtain⟨o,L,us,fr,k,at_,sl,st,r,rk,eo,rfl,hC,hul,hF,hz,hsl,hr1,hE,q⟩:=h
 have nd:=sc_own_done.nd
 have hu:=hr.units0
 refine⟨_,(A6 (C5 (i:=3) nd rfl (Or.inl rfl) (ixE K w (pv 2) A5))
   (A6 (C8 (B2 (kIn (K:=K) (w:=w)) (pv 3) (BK (v:=.ref _) rfl m_ROW_SIGNS rfl) rfl) (A7 (B5 (B1 AI (hr.mono (by omega)) rfl OG OP OI .nil B8 (A0 (pv 1) (A0 (ixE K w (BK (v:=.ref _) rfl m_ROW_SIGNS rfl) (pv 3)) A4))))) C1)
   (A6 (C8 (B2 (kIn (K:=K) (w:=w)) (pv 3) (B7 (A0 A8 (A0 A8 A4))) rfl) (A7 (B5 (B1 W9 (hr.mono (by omega)) rfl LV LD LK .nil B8 (A0 (pv 0) (A0 (pv 1) (A0 (pv 3) A4)))))) C1)
   (A6 (C8 (B2 (kIn (K:=K) (w:=w)) (pv 3) (B7 (A0 A8 (A0 A8 A4))) rfl) (A7 (B5 (B7 (A0 A8 (A0 (B1 Q6 (hr.mono (by omega)) rfl DS DO DK .nil B8 (A0 (pv 0) (A0 (pv 1) (A0 (pv 2) A4)))) A4))))) C1)
   (A6 (C8 (B2 (kIn (K:=K) (w:=w)) (pv 3) (B7 (A0 A8 (A0 A8 (A0 A8 A4)))) rfl) (A7 (B5 (B7 (A0 A8 (A0 (B1 O3 (hr.mono (by omega)) rfl AM AG AE .nil B8 (A0 (pv 1) (A0 (pv 2) A4))) A4))))) C1)
   (A6 (C8 (B2 (kIn (K:=K) (w:=w)) (pv 3) (B7 (A0 A8 (A0 A8 A4))) rfl) (A6 (C5 (i:=4) nd rfl (Or.inl rfl) (ixE K w (ixE K w (pv 1) A5) (J0 E4 A5)))
   (A7 (B5 (B7 (A0 A8 (A0 (B1 D6 (hr.mono (by omega)) rfl J6 J7 J8 .nil B8 (A0 (pv 1) (A0 A5 (A0 (B7 (A0 (Q4 (B2 (kEq (K:=K) hu) (pv 3) A8 rfl) (N2 RN (pv 4) N7 rfl) (bNZ (pv 4))) A4)) A4)))) A4)))))) C1)
   (A7 (B5 (B7 (A0 A8 (A0 (B1 D6 (hr.mono (by omega)) rfl J6 J7 J8 .nil B8 (A0 (pv 1) (A0 A5 (A0 (B7 (A0 (B1 X2 (hr.mono (by omega)) rfl LI KZ KO .nil B8 (A0 (pv 1) (A0 (pv 2) A4))) A4)) A4)))) A4))))))))))), ?_⟩
 refine⟨_,rfl,(ixT hr1 (HL rk) ?_)⟩
 refine⟨_,rfl,.inr (.inr ⟨T9 rk,rs,RS,rfl,rfl,TD,_,rfl,GY (λc1=> ?_) (λc1=> ?_)⟩)⟩
 ·cases hE<;>first|(exfalso;simp only[T9]at c1;revert c1;decide)|skip
  case twoV g a b v st hg ha hb he hv=>
   refine⟨_,rfl,_,rfl,.inr (.inr (.inr ⟨_,_,RS,_,rfl,rfl,TD,bsZ hg,fr,k,at_,sl,st,g,a,b,rfl,hF,by simp at hz;omega,hg,ha,hb,λv' p q1 H' e s1 h1 h2=> ?_,λw' p H' e s1 h1=> ?_⟩))⟩
   ·rw[he]at e
    have e':=(List.cons.inj (List.cons.inj e).2).1
    subst e'
    exact q p q1 H' s1 h1 h2
   ·rw[he]at e
    exact absurd (List.cons.inj e).1 (by decide)
  case twoR g a b w0 st hg ha hb he=>
   refine⟨_,rfl,_,rfl,.inr (.inr (.inr ⟨_,_,RS,_,rfl,rfl,TD,bsZ hg,fr,k,at_,sl,st,g,a,b,rfl,hF,by simp at hz;omega,hg,ha,hb,λv' p q1 H' e s1 h1 h2=> ?_,λw' p H' e s1 h1=> ?_⟩))⟩
   ·rw[he]at e
    exact absurd (List.cons.inj e).1 (by decide)
   ·rw[he]at e
    have e':=(List.cons.inj (List.cons.inj e).2).1
    injection e' with e'
    subst e'
    exact q p H' s1 h1
 refine⟨_,rfl,P9,λt1 ht1=> .inr (.inl ⟨t1,_,rfl,.inr (SqT.of A2),rfl,rfl,_,rfl,GY (λc2=> ?_) (λc2=> ?_)⟩)⟩
 ·have s1:=A3 ht1 (.tup [.str "head",.str "tail"])
  have hF1:=hF.mono (B6 s1)
  have hC1:=hC.same s1
  cases hE<;>first|exact absurd (LZ _) c1|(exfalso;simp only[T9]at c2;revert c2;decide)|skip
  case headN st=>
   exact⟨_,rfl,_,rfl,_,rfl,o,L,us,fr,k,at_,sl,st,.non,false,rfl,hC1,hF1,by simp at hz;omega,.inl ⟨rfl,λp H' s2 hp=>q p H' (s1.trans s2) hp⟩⟩
  case tailN st=>
   exact⟨_,rfl,_,rfl,_,rfl,o,L,us,fr,k,at_,sl,st,.non,true,rfl,hC1,hF1,by simp at hz;omega,.inl ⟨rfl,λp H' s2 hp=>q p H' (s1.trans s2) hp⟩⟩
  case head p0 c h0 t0 st j g1 g2 g3 g4=>
   exact⟨_,rfl,_,rfl,_,rfl,o,L,us,fr,k,at_,sl,st,_,false,rfl,hC1,hF1,by simp at hz;omega,.inr ⟨p0,c,j,h0,t0,rfl,s1 _ _ g1,g2,s1 _ _ g3,λp q1 H' s2 hp hq=>q p q1 H' (s1.trans s2) hp hq⟩⟩
  case tail p0 c h0 t0 st j g1 g2 g3 g4=>
   exact⟨_,rfl,_,rfl,_,rfl,o,L,us,fr,k,at_,sl,st,_,true,rfl,hC1,hF1,by simp at hz;omega,.inr ⟨p0,c,j,h0,t0,rfl,s1 _ _ g1,g2,s1 _ _ g3,λp q1 H' s2 hp hq=>q p q1 H' (s1.trans s2) hp hq⟩⟩
 have s1:=A3 ht1 (.tup [.str "head",.str "tail"])
 refine⟨_,rfl,P9,λt2 ht2=> .inr (.inl ⟨t2,_,rfl,.inr (SqT.of A2),rfl,rfl,_,rfl,GY (λc3=> ?_) (λc3=> ?_)⟩)⟩
 ·have s2:=s1.trans (A3 ht2 (.tup [.str "cons",.str "close"]))
  have hF1:=hF.mono (B6 s2)
  have hC1:=hC.same s2
  cases hE<;>first|exact absurd (LZ _) c1|(exfalso;simp only[T9]at c3;revert c3;decide)|skip
  case cons x y st=>
   refine⟨_,rfl,_,rfl,_,rfl,o,L,us,fr,k,at_,sl,st,r,rfl,hC1,hul,by simp at hz;omega,.inl ⟨x,y,s2 _ _ hr1,hF1,λq1 c cv H' k1 g1 g2 g3 g4=>⟨P9,λp hp=> ?_⟩⟩⟩
   have s3:=A3 hp (.tup [.str "frame",.ref q1])
   exact q p q1 c cv _ (λb o' hb hne=>s3 _ _ (k1 _ _ (s2 _ _ hb) hne)) (g1.same s3) (s3 _ _ g2) (s3 _ _ g3) A2 (g4.mono (B6 s3))
  case close b n st xs hn=>
   refine⟨_,rfl,_,rfl,_,rfl,o,L,us,fr,k,at_,sl,st,r,rfl,hC1,hul,by simp at hz;omega,.inr ⟨b,n,xs,s2 _ _ hr1,hF1,hn,by simp at hz;omega,λq1 c cv vt H' k1 g1 g2 g2' g3 g4=>⟨P9,λp hp=> ?_⟩⟩⟩
   have s3:=A3 hp (.tup [.str "frame",.ref q1])
   exact q p q1 c cv vt _ (λb o' hb hne=>s3 _ _ (k1 _ _ (s2 _ _ hb) hne)) (g1.same s3) (s3 _ _ g2) (s3 _ _ g2') (s3 _ _ g3) A2 (g4.mono (B6 s3))
 have s2:=s1.trans (A3 ht2 (.tup [.str "cons",.str "close"]))
 refine⟨_,rfl,XC,λt3 ht3=> .inr (.inl ⟨t3,_,rfl,.inr (SqT.of A2),rfl,rfl,_,rfl,GY (λc4=> ?_) (λc4=> ?_)⟩)⟩
 ·have s3:=s2.trans (A3 ht3 (.tup [.str "keep",.str "skip",.str "unless"]))
  have hF1:=hF.mono (B6 s3)
  cases hE<;>first|exact absurd (LZ _) c1|(exfalso;simp only[T9]at c4;revert c4;decide)|skip
  case keep j v st hj=>
   refine⟨_,rfl,_,rfl,fr,k,at_,sl,_,r,rfl,hF1,hz,by omega,.inl ⟨j,st,v,s3 _ _ hr1,rfl,λq1 H' s4 g=>⟨P9,λp hp=> ?_⟩⟩⟩
   have s5:=A3 hp (.tup [.str "frame",.ref q1])
   exact q p q1 _ (s3.trans (s4.trans s5)) A2 (g.mono (B6 s5))
  case skip n=>
   refine⟨_,rfl,_,rfl,fr,k,at_,sl,_,r,rfl,hF1,hz,by omega,.inr (.inl ⟨n,s3 _ _ hr1,λq1 H' s4 g=>⟨P9,λp hp=> ?_⟩⟩)⟩
   have s5:=A3 hp (.tup [.str "frame",.ref q1])
   exact q p q1 _ (s3.trans (s4.trans s5)) A2 (by rw[<-Int.add_assoc];exact g.mono (B6 s5))
  case «unless» n b st=>
   refine⟨_,rfl,_,rfl,fr,k,at_,sl,_,r,rfl,hF1,hz,by omega,.inr (.inr ⟨n,st,b,s3 _ _ hr1,rfl,λq1 H' s4 g=>⟨P9,λp hp=> ?_⟩⟩)⟩
   have s5:=A3 hp (.tup [.str "frame",.ref q1])
   exact q p q1 _ (s3.trans (s4.trans s5)) A2 (by rw[<-Int.add_assoc];exact g.mono (B6 s5))
 have s3:=s2.trans (A3 ht3 (.tup [.str "keep",.str "skip",.str "unless"]))
 refine⟨_,rfl,P9,λt4 ht4=> .inr (.inl ⟨t4,_,rfl,.inr (SqT.of A2),rfl,rfl,_,rfl,GY (λc5=> ?_) (λc5=> ?_)⟩)⟩
 ·have s4:=s3.trans (A3 ht4 (.tup [.str "empty",.str "not"]))
  have hF1:=hF.mono (B6 s4)
  obtain⟨q0,e0,h1,h2,h3⟩:=id hF1
  cases hE<;>first|exact absurd (LZ _) c1|(exfalso;simp only[T9]at c5;revert c5;decide)|skip
  case emptyN st=>
   refine⟨_,rfl,(ixT h1 rfl ⟨_,rfl,(ixT h3 (G0 _ _) ?_)⟩)⟩
   refine⟨_,rfl,_,rfl,.inl ⟨rfl,_,rfl,ifT (by decide) ⟨_,rfl,rfl,CF,λt5 ht5=> ?_⟩⟩⟩
   have s5:=A3 ht5 (.tup [.bl true])
   refine⟨fr,k,at_,sl,_,1,t5,_,rfl,hF1.mono (B6 s5),by simp,A2,by simp at hz⊢;omega,λq1 H6 s6 hq=>⟨P9,λp hp=> ?_⟩⟩
   have e2:(st++ [V.non]).take ((st++ [V.non]).length - 1)=st:=by simp
   rw[e2]at hq
   have s7:=A3 hp (.tup [.str "frame",.ref q1])
   exact q p q1 _ (s4.trans (s5.trans (s6.trans s7))) A2 (hq.mono (B6 s7))
  case empty p0 xs st hp0=>
   refine⟨_,rfl,(ixT h1 rfl ⟨_,rfl,(ixT h3 (G0 _ _) ?_)⟩)⟩
   refine⟨_,rfl,_,rfl,.inl ⟨rfl,_,rfl,ifT (by decide) ⟨_,rfl,rfl,CF,λt5 ht5=> ?_⟩⟩⟩
   have ed:decide (V.ref p0=V.non)=false:=by simp
   rw[ed]at*
   have s5:=A3 ht5 (.tup [.bl false])
   refine⟨fr,k,at_,sl,_,1,t5,_,rfl,hF1.mono (B6 s5),by simp,A2,by simp at hz⊢;omega,λq1 H6 s6 hq=>⟨P9,λp hp=> ?_⟩⟩
   have e2:(st++ [V.ref p0]).take ((st++ [V.ref p0]).length - 1)=st:=by simp
   rw[e2]at hq
   have s7:=A3 hp (.tup [.str "frame",.ref q1])
   exact q p q1 _ (s4.trans (s5.trans (s6.trans s7))) A2 (hq.mono (B6 s7))
  case not b st=>
   refine⟨_,rfl,(ixT h1 rfl ⟨_,rfl,(ixT h3 (G0 _ _) ?_)⟩)⟩
   refine⟨_,rfl,_,rfl,.inl ⟨rfl,_,rfl,ifF (by decide) ⟨_,rfl,b,rfl,CF,λt5 ht5=> ?_⟩⟩⟩
   have s5:=A3 ht5 (.tup [.bl (!b)])
   refine⟨fr,k,at_,sl,_,1,t5,_,rfl,hF1.mono (B6 s5),by simp,A2,by simp at hz⊢;omega,λq1 H6 s6 hq=>⟨P9,λp hp=> ?_⟩⟩
   have e2:(st++ [V.bl b]).take ((st++ [V.bl b]).length - 1)=st:=by simp
   rw[e2]at hq
   have s7:=A3 hp (.tup [.str "frame",.ref q1])
   exact q p q1 _ (s4.trans (s5.trans (s6.trans s7))) A2 (hq.mono (B6 s7))
 have s4:=s3.trans (A3 ht4 (.tup [.str "empty",.str "not"]))
 have hF1:=hF.mono (B6 s4)
 have key:∃v,Ef H us sl rk st eo/\eo=.fr 1 sl (st++ [v])/\((∃v',H r=some (.tup [.str "push",v'])/\v'=v)\/(H r=some (.tup [.str "none"])/\v=.non)\/(∃(j:Nat),H r=some (.tup [.str "load",.int (j:Nat)])/\sl[j]? =some v)):=by
  cases hE<;>first|exact absurd (LZ _) c1|(exfalso;simp only[T9]at c5;revert c5;decide)|(exfalso;simp only[T9]at c4;revert c4;decide)|(exfalso;simp only[T9]at c3;revert c3;decide)|(exfalso;simp only[T9]at c2;revert c2;decide)|skip
  case push v hv=>exact⟨v,.push hv,rfl,.inl ⟨v,hr1,rfl⟩⟩
  case non=>exact⟨.non,.non,rfl,.inr (.inl ⟨hr1,rfl⟩)⟩
  case load j v hj=>exact⟨v,.load hj,rfl,.inr (.inr ⟨j,hr1,hj⟩)⟩
 obtain⟨v,_,rfl,hv⟩:=key
 have fin:∀(t5:Addr) (H5:Hp),Same _ H5->H5 t5=some (.tup [v])->DG [.ref fr,.int 0,.ref t5] H5 (λv1 H1=>tTupW Q [.str "frame",v1] H1) E:=λt5 H5 s5 ht5=>
  ⟨fr,k,at_,sl,st,0,t5,[v],rfl,hF1.mono (B6 s5),zero_le _,ht5,by simp;omega,λq1 H6 s6 hq=>⟨P9,λp hp=>by
   have s7:=A3 hp (.tup [.str "frame",.ref q1])
   rw[sub_zero,take_length]at hq
   exact q p q1 _ (s4.trans (s5.trans (s6.trans s7))) A2 (hq.mono (B6 s7))⟩⟩
 refine⟨_,rfl,_,rfl,_,rfl,fr,k,at_,sl,st,r,rfl,hF1, ?_⟩
 rcases hv with⟨v',hr2,rfl⟩|⟨hr2,rfl⟩|⟨j,hr2,hj⟩
 ·exact .inl ⟨v',s4 _ _ hr2,CF,λt5 ht5=>fin t5 _ (A3 ht5 _) A2⟩
 ·exact .inr (.inl ⟨s4 _ _ hr2,CF,λt5 ht5=>fin t5 _ (A3 ht5 _) A2⟩)
 ·exact .inr (.inr ⟨j,v,s4 _ _ hr2,hj,CF,λt5 ht5=>fin t5 _ (A3 ht5 _) A2⟩)
end
end CL
namespace SW
open PySem L2 BV CL
inductive Vl where
 |sc (v:V)|cell (k:Nat)
inductive Cl where
 |pair (a b:Vl)|fn (n:Int) (vs:List Vl)
noncomputable def scV:V->Bool
 | .int _=>true
 | .bl _=>true
 | .non=>true
 |_=>false
theorem WQ{v:V}(h:scV v=true):Z6 v=true:=by cases v<;>first|rfl|(cases h;done)
noncomputable def VAt(H:Hp):Vl->V->Prop
 | .sc x,v=>v=x/\scV x=true
 | .cell k,v=>∃p:Addr,v=.ref p/\H p=some (.tup [.str "cell",.int (k:Nat)])
noncomputable def vin:Cl->List Vl
 | .pair a b=> [a,b]
 | .fn _ vs=>vs
noncomputable def ClAt(H:Hp):Cl->V->Prop
 | .pair a b,u=>∃(p:Addr) (x y:V),u=.ref p/\H p=some (.tup [.str "pair",x,y])/\VAt H a x/\VAt H b y
 | .fn n vs,u=>∃(p q:Addr) (xs:List V),u=.ref p/\H p=some (.tup [.str "fn",.int n,.ref q])/\H q=some (.tup xs)/\All2 (VAt H) vs xs/\vs.length<=10
theorem VAt.mo{H H':Hp}(m:Mo H H'):∀ {x:Vl} {v:V},VAt H x v->VAt H' x v
 | .sc _,_,h=>h
 | .cell _,_,⟨p,e,h⟩=>⟨p,e,m _ _ h⟩
theorem ClAt.mo{H H':Hp}(m:Mo H H'):∀ {c:Cl} {u:V},ClAt H c u->ClAt H' c u
 | .pair _ _,_,⟨p,x,y,e,h,h1,h2⟩=>⟨p,x,y,e,m _ _ h,h1.mo m,h2.mo m⟩
 | .fn _ _,_,⟨p,q,xs,e,h,h1,h2,h3⟩=>⟨p,q,xs,e,m _ _ h,m _ _ h1,h2.imp λ_ _ z=>VAt.mo m z,h3⟩
noncomputable def Okc(cs:List Cl):Prop:=∀(k j:Nat) (c:Cl),cs[k]? =some c->Vl.cell j∈vin c->j<cs.length
end SW
namespace SW
open PySem L2 BV CL
seal PE PT PW PA PS PSs PTs PI PG PGs PO
noncomputable def isC:Vl->Bool
 | .cell _=>true
 |_=>false
section
variable{P:Program}{w:World}{K:FZ}{mg:Str->Option Value}{base:Heap}{f:Addr}{fd:FuncData}{C:Addr}{mf:Str->Addr}{md:Str->FuncData}{TV f_values_in f_moved f_moved_cell:Addr}{UC d_values_in d_moved d_moved_cell:FuncData}
end
theorem L6{H:Hp}{a b:Addr}{o o':HO}(h:H b=some o)(n:b≠a):upd H a o' b=some o:=by rw[B0 n];exact h
section
variable{P:Program}{w:World}{K:FZ}{mg:Str->Option Value}{base:Heap}{f:Addr}{fd:FuncData}{C:Addr}{mf:Str->Addr}{md:Str->FuncData}{TV f_values_in:Addr}{UC d_values_in:FuncData}
noncomputable def iv(xs:List Nat):List V:=xs.map λi=>V.int (i:Nat)
end
theorem SL{C:Addr}{H:Hp}{o d L:Addr}(ho:H o=none)(hd:H d=none)(hn:d≠o)(hL:upd (upd H d (.own o)) o (.ins C d []) L=none):
  Same H (upd (upd (upd (upd H d (.own o)) o (.ins C d [])) L (.lst [])) o (.ins C d [("in_order",.ref L)]))/\CAt C (upd (upd (upd (upd H d (.own o)) o (.ins C d [])) L (.lst [])) o (.ins C d [("in_order",.ref L)])) o L []/\H L=none:=by
 have hLo:L≠o:=λe=>by subst e;rw[A2]at hL;cases hL
 have hL1:=hL
 rw[B0 hLo]at hL1
 have hLd:L≠d:=λe=>by subst e;rw[A2]at hL1;cases hL1
 rw[B0 hLd]at hL1
 refine⟨λb x hb=> ?_,⟨d,A2, ?_⟩,hL1⟩
 ·rw[B0 (C6 hb ho),B0 (C6 hb hL1),B0 (C6 hb ho),B0 (C6 hb hd)];exact hb
 ·rw[B0 hLo];exact A2
section
variable{P:Program}{w:World}{K:FZ}{mg:Str->Option Value}{base:Heap}{f fi:Addr}{fd di:FuncData}{C:Addr}{mf:Str->Addr}{md:Str->FuncData}{f_numbers_led_to f_moved f_moved_cell:Addr}{d_numbers_led_to d_moved d_moved_cell:FuncData}
end
end SW
namespace BV
open PySem L2
seal PE PT PW PA PS PSs PTs PI PG PGs PO
noncomputable def top(i:Nat):Stmt:=PySem.Challenge.pw_speakmill_k65_each_row.main.body.getD i (.Pass ⟨0,0,0,0⟩)
noncomputable abbrev s_built_up:Stmt:=top 2
noncomputable abbrev ER:List Str:=["root","parts_in","made","met","waiting","node","parts","done","many","made_parts"]
theorem sc_built_up:FnScope ER aRZ (A9 s_built_up):=fS
structure NoG (mg:Str->Option Value):Prop where
 len_:mg "len"=none
 list_:mg "list"=none
 reversed_:mg "reversed"=none
 range_:mg "range"=none
 zip_:mg "zip"=none
 isinstance_:mg "isinstance"=none
 str_:mg "str"=none
 tuple_:mg "tuple"=none
 sum_:mg "sum"=none
 max_:mg "max"=none
 min_:mg "min"=none
 int_:mg "int"=none
 bool_:mg "bool"=none
 enumerate_:mg "enumerate"=none
 all_:mg "all"=none
theorem ifT{c A B:Prop}[Decidable c](h:c)(a:A):if c then A else B:=by rw[if_pos h];exact a
theorem ifF{c A B:Prop}[Decidable c](h:¬c)(b:B):if c then A else B:=by rw[if_neg h];exact b
theorem L6{H:Hp}{a b:Addr}{o o':HO}(h:H b=some o)(n:b≠a):upd H a o' b=some o:=by rw[B0 n];exact h
theorem ZJ{H:Hp}{a b:Addr}{o':HO}(h:upd H a o' b=none):H b=none/\b≠a:=by
 by_cases e:b=a
 ·subst e;rw[A2]at h;cases h
 ·rw[B0 e]at h;exact⟨h,e⟩
theorem NB(y:V)(ws:List V):(y::ws).reverse[(y::ws).reverse.length - 1]? =some y:=by
 rw[reverse_cons]
 simp
theorem MX(y:V)(ws:List V):(y::ws).reverse.dropLast=ws.reverse:=by
 rw[reverse_cons]
 simp
theorem ctZ{ws us:List V}(h:ws.reverse=us):ws=us.reverse:=by rw[<-h,List.reverse_reverse]
theorem YU{α:Type}{A:List α}{k:Nat}{t:α}(h:A[k]? =some t):A.take (k+1)=A.take k++ [t]:=by
 obtain⟨h1,h2⟩:=List.getElem?_eq_some_iff.mp h
 rw[List.take_succ_eq_append_getElem h1,h2]
inductive spM2W (D:Tr) (O:AS) (vs:List V) (H:Hp) (Q:VK):Prop
 |mk:∀S t v l us,(vs=[v,.ref l])->(D.val S H t v)->(D.size t<=400000)->(H l=some (.lst us))->(¬S l)->(¬O l)->((∀a,S a->H a≠none))->(All2 (D.res S H) (D.kids t) us)->(∀r H',Same H H'->D.res S H' t r->Q r H')->spM2W D O vs H Q
noncomputable def aeZ(D:Tr)(O:AS):Sp:=λvs H Q _=>spM2W D O vs H Q
inductive spBuilt2W (P:Program) (w:World) (K:FZ) (mg:Str->Option Value) (base:Heap) (vs:List V) (H:Hp) (Q:VK):Prop
 |mk:∀(D:Tr) (S O:AS) (t:D.T) (v:V) (fp fm:Addr) (dp dm:FuncData) (np nm:List Str),(vs=[v,.ref fp,.ref fm])->(FnOk P w K mg base CX0 3 fp dp np (spP D))->(EO K base fp)->(Binds K dp np [])->(FnOk P w K mg base CX0 3 fm dm nm (aeZ D O))->(EO K base fm)->(Binds K dm nm [])->((∀a,S a->H a≠none))->((∀a,O a->H a≠none))->(D.val S H t v)->(D.size t<=400000)->(∀r H',Same H H'->D.res S H' t r->Q r H')->spBuilt2W P w K mg base vs H Q
noncomputable def FY(P:Program)(w:World)(K:FZ)(mg:Str->Option Value)(base:Heap):Sp:=λvs H Q _=>spBuilt2W P w K mg base vs H Q
section
variable{P:Program}{w:World}{K:FZ}{mg:Str->Option Value}{base:Heap}{f:Addr}{fd:FuncData}
theorem ok_built_up(F:Fun K "built_up" "built_up" s_built_up f fd)(B:NoG mg):FnOk P w K mg base CX0 4 f fd aRZ (FY P w K mg base):=by
 refine F.ok sc_built_up (λvs H Q E h=> ?_) (λcdv A outer s H vs Q E hr h=> ?_)
 ·obtain⟨D,S,O,t,v,fp,fm,dp,dm,np,nm,rfl,_⟩:=h
  rfl
 obtain⟨D,S,O,t,v,fp,fm,dp,dm,np,nm,rfl,FP,kp,bp,FM,km,bm,hSo,hOo,hval,hsz,q⟩:=h
 have nd:=sc_built_up.nd
 have hu:=hr.units0
 have z1:(1:Nat)<=sizeLine:=by decide
 have z2:(2:Nat)<=sizeLine:=by decide
 have z3:(400000:Nat)+400000<sizeLine:=by decide
 refine⟨_,(A6 (C5 (i:=3) nd rfl (Or.inl rfl) (D4 A4))
   (A6 (C5 (i:=4) nd rfl (Or.inl rfl) (D4 (A0 (pv 0) A4)))
   (A6 (MV PassesOwn.never (N1 (K:=K) (pv 4) (λ_=>rfl)) (A6 (C5 (i:=5) nd rfl (Or.inl rfl) (IF (K:=K) PySem.F.plainAttrs_list PySem.F.slot_list_pop PySem.F.type_list_pop FC (pv 4)))
   (A6 (C5 (i:=6) nd rfl (Or.inl rfl) (HP (P:=P) (w:=w) (K:=K) (mg:=mg) (base:=base) (pv 1) B8 (A0 (pv 5) A4)))
   (A6 (C0 (M9 (K:=K) PySem.F.plainAttrs_list PySem.F.slot_list_append PySem.F.type_list_append C3 (pv 3) (A0 (B7 (A0 (pv 5) (A0 (B9 (J9 (K:=K)) rfl B.len_ E8 (A0 (pv 6) A4)) A4))) A4)))
   (A7 (C0 (M9 (K:=K) PySem.F.plainAttrs_list PySem.F.slot_list_extend PySem.F.type_list_extend VM (pv 4) (A0 (QP (K:=K) rfl B.reversed_ rfl B.list_ rfl (A0 (pv 6) A4)) A4))))))))
   (A6 (C5 (i:=7) nd rfl (Or.inr rfl) (D4 A4))
   (A6 (U0 PassesOwn.never rfl (ceZ (K:=K) rfl B.reversed_ (A0 (pv 3) A4)) (JL rfl (L0 (G4 (i:=5) nd rfl (Or.inl rfl)) (L0 (G4 (i:=8) nd rfl (Or.inl rfl)) BJ))) (A6 (S6 (i:=9) nd rfl rfl (cS (N:=ER) (sc:=A9 s_built_up) (caps:=[7]) (ns:=["done"])) rfl rfl rfl (L9 rfl B.range_ (A0 (pv 8) A4)) (λ_ _ _ _ _=>R5) (λ_ _ _ _ _=>(IF (K:=K) PySem.F.plainAttrs_list PySem.F.slot_list_pop PySem.F.type_list_pop FC (pv 1))))
   (A7 (C0 (M9 (K:=K) PySem.F.plainAttrs_list PySem.F.slot_list_append PySem.F.type_list_append C3 (pv 7) (A0 (HP (P:=P) (w:=w) (K:=K) (mg:=mg) (base:=base) (pv 2) B8 (A0 (pv 5) (A0 (pv 9) A4))) A4))))))
   (A7 (B5 (IF (K:=K) PySem.F.plainAttrs_list PySem.F.slot_list_pop PySem.F.type_list_pop FC (pv 7))))))))), ?_⟩
 refine⟨(by show 0<=sizeLine;decide),λml hml=> ?_⟩
 refine⟨_,rfl,z1,λwl hwl0=> ?_⟩
 obtain⟨hwl,nwm⟩:=ZJ hwl0
 have g0:Same H (upd (upd H ml (.lst [])) wl (.lst [v])):=(A3 hml _).trans (A3 hwl0 _)
 obtain⟨S1,w1,hS1,mS,wS,sub1⟩:∃S1:AS,Wd H S S1/\(∀H':Hp,Same H H'->H' ml≠none->H' wl≠none->∀a,S1 a->H' a≠none)/\S1 ml/\S1 wl/\∀a,S a->S1 a:=by
  refine⟨λa=>S a\/a=ml\/a=wl,λa ha=> ?_,λH' sm h1 h2 a ha=> ?_,.inr (.inl rfl),.inr (.inr rfl),λa h=> .inl h⟩
  ·rcases ha with h|rfl|rfl
   ·exact .inl h
   ·exact .inr hml
   ·exact .inr hwl
  ·rcases ha with h|rfl|rfl
   ·obtain⟨o,ho⟩:=ne_none_iff_exists'.mp (hSo a h)
    rw[sm _ _ ho];exact λz=>nomatch z
   ·exact h1
   ·exact h2
 have hval1:=D.vw w1 hval
 refine⟨λm σ H'=>∃(N W:List D.T) (ms ws:List V) (y1 y2:Option V),σ=[some v,some (.ref fp),some (.ref fm),some (.ref ml),some (.ref wl),y1,y2,none,none,none]/\Same H H'/\H' ml=some (.lst ms)/\H' wl=some (.lst ws)/\
   All2 (MetAt D S1 H') N ms/\All2 (D.val S1 H') W ws.reverse/\Reach D t N W/\m=(W.map D.size).sum,
  ⟨D.size t,[],[t],[],[v],none,none,rfl,g0,L6 A2 (Ne.symm nwm),A2,.nil,.cons (D.vm (.of g0) hval1) .nil,.start,by simp⟩, ?_⟩
 rintro m σ H' ⟨N,W,ms,ws,y1,y2,rfl,sm,hm,hw,hN,hW,hR,rfl⟩
 have hms:=hN.len
 have hRs:=hR.size
 refine⟨_,rfl, !ws.isEmpty,.inl ⟨ws,SqL.of hw,rfl⟩, ?_⟩
 generalize ew:ws.reverse=wr at hW
 have ew:=ctZ ew
 subst ew
 cases hW with
 | @cons n u W' wr hn hW'=>
  refine ifT (by simp) ?_
  refine⟨_,λ_ _ h=>h, ?_⟩
  refine⟨_,rfl,.inl ⟨rfl,_,SqL.of hw⟩,wl,_,_,rfl,rfl,hw,NB _ _, ?_⟩
  rw[MX]
  have t1:Kp S1 H' (upd H' wl (.lst wr.reverse)):=.upd wS hw _
  have hm1:upd H' wl (.lst wr.reverse) ml=some (.lst ms):=L6 hm (Ne.symm nwm)
  have hw1:upd H' wl (.lst wr.reverse) wl=some (.lst wr.reverse):=A2
  have o1:Same H (upd H' wl (.lst wr.reverse)):=λb o e=>L6 (sm b o e) (C6 e hwl)
  generalize upd H' wl (.lst wr.reverse)=H1 at t1 hm1 hw1 o1⊢
  have hkn:=D.kids_le n
  have hszn:D.size n<=400000:=by simp only[map_cons,sum_cons]at hRs;omega
  refine⟨_,rfl,fp,dp,np,spP D,3,rfl,FP,hr.mono (by decide),kp,bp,_,rfl,S1,n,u,rfl,D.vm t1 hn,hszn,λr H2 ps s2 hr1 hr2 hps=> ?_⟩
  have hm2:=s2 _ _ hm1
  have hw2:=s2 _ _ hw1
  have o2:=o1.trans s2
  have t2:Kp S1 H' H2:=t1.trans (.of s2)
  have nrw:r≠wl:=λe=>by subst e;rw[hw1]at hr1;cases hr1
  have nrm:r≠ml:=λe=>by subst e;rw[hm1]at hr1;cases hr1
  have hpl:=hps.len
  refine⟨_,rfl,.inl ⟨rfl,_,SqL.of hm2⟩,_,rfl,_,rfl,_,_,rfl,.inl ⟨_,SqL.of hr2,rfl⟩,z2,λp hp=> ?_⟩
  have s3:Same H2 (upd H2 p (.tup [u,.int (ps.length:Nat)])):=A3 hp _
  refine⟨ml,_,_,rfl,rfl,s3 _ _ hm2,by omega, ?_⟩
  have t4:Kp S1 H' (upd (upd H2 p (.tup [u,.int (ps.length:Nat)])) ml (.lst (ms++ [.ref p]))):=(t2.trans (.of s3)).trans (.upd mS (s3 _ _ hm2) _)
  have hp4:upd (upd H2 p (.tup [u,.int (ps.length:Nat)])) ml (.lst (ms++ [.ref p])) p=some (.tup [u,.int (ps.length:Nat)]):=L6 A2 (λe=>by subst e;rw[hm2]at hp;cases hp)
  have hm4:upd (upd H2 p (.tup [u,.int (ps.length:Nat)])) ml (.lst (ms++ [.ref p])) ml=some (.lst (ms++ [.ref p])):=A2
  have hw4:upd (upd H2 p (.tup [u,.int (ps.length:Nat)])) ml (.lst (ms++ [.ref p])) wl=some (.lst wr.reverse):=L6 (s3 _ _ hw2) nwm
  have hr4:upd (upd H2 p (.tup [u,.int (ps.length:Nat)])) ml (.lst (ms++ [.ref p])) r=some (.lst ps):=L6 (s3 _ _ hr2) nrm
  have o4:Same H (upd (upd H2 p (.tup [u,.int (ps.length:Nat)])) ml (.lst (ms++ [.ref p]))):=λb o e=>L6 (s3 _ _ (o2 b o e)) (C6 e hml)
  have t24:Kp S1 H2 (upd (upd H2 p (.tup [u,.int (ps.length:Nat)])) ml (.lst (ms++ [.ref p]))):=(Kp.of s3).trans (.upd mS (s3 _ _ hm2) _)
  generalize upd (upd H2 p (.tup [u,.int (ps.length:Nat)])) ml (.lst (ms++ [.ref p]))=H4 at t4 hp4 hm4 hw4 hr4 o4 t24⊢
  refine⟨_,rfl,.inl ⟨rfl,_,SqL.of hw4⟩,_,rfl,r,ps,rfl,SqL.of hr4,λr2 hr2'=> ?_⟩
  have s5:Same H4 (upd H4 r2 (.lst ps.reverse)):=A3 hr2' _
  have hWl:=D.len_le W'
  have hWe:=hW'.len
  refine⟨wl,r2,_,_,rfl,rfl,s5 _ _ hw4,A2, ?_, ?_⟩
  ·simp only[length_reverse]
   simp only[map_cons,sum_cons]at hRs
   omega
  have t6:Kp S1 H4 (upd (upd H4 r2 (.lst ps.reverse)) wl (.lst (wr.reverse++ps.reverse))):=(Kp.of s5).trans (.upd wS (s5 _ _ hw4) _)
  refine⟨_, ?_,N++ [n],D.kids n++W',ms++ [.ref p],wr.reverse++ps.reverse,_,_,rfl,λb o e=>L6 (s5 _ _ (o4 b o e)) (C6 e hwl),L6 (s5 _ _ hm4) (Ne.symm nwm),A2, ?_, ?_,.step hR,rfl⟩
  ·simp only[map_append,sum_append,map_cons,sum_cons]
   have:=D.hsz n
   omega
  ·refine(hN.imp λa b h=>h.mono (t4.trans t6)).app (.cons ⟨p,u,rfl, ?_,D.vm (t4.trans t6) hn⟩ .nil)
   rw[hpl]
   exact t6.tups hp4
  ·rw[List.reverse_append,List.reverse_reverse,List.reverse_reverse]
   exact(hps.imp λa b h=>D.vm (t24.trans t6) h).app (hW'.imp λa b h=>D.vm (t4.trans t6) h)
 |nil=>
  refine ifF (by simp) ?_
  refine⟨(by show 0<=sizeLine;decide),λdl hdl=> ?_⟩
  have s7:Same H' (upd H' dl (.lst [])):=A3 hdl _
  have hdl0:H dl=none:=sm.free hdl
  have ndm:dl≠ml:=λe=>by subst e;rw[hm]at hdl;cases hdl
  have hm':H' ml≠none:=by rw[hm];exact λz=>nomatch z
  have hw':H' wl≠none:=by rw[hw];exact λz=>nomatch z
  have ndw:dl≠wl:=λe=>by subst e;rw[hw]at hdl;cases hdl
  obtain⟨S2,w2,hS2,dS,sub2⟩:∃S2:AS,Wd H' S1 S2/\(∀H2:Hp,Same H H2->H2 ml≠none->H2 wl≠none->H2 dl≠none->∀a,S2 a->H2 a≠none)/\S2 dl/\∀a,S a->S2 a:=by
   refine⟨λa=>S1 a\/a=dl,λa ha=> ?_,λH2 sm2 h1 h2 h3 a ha=> ?_,.inr rfl,λa h=> .inl (sub1 a h)⟩
   ·rcases ha with h|rfl
    ·exact .inl h
    ·exact .inr hdl
   ·rcases ha with h|rfl
    ·exact hS1 H2 sm2 h1 h2 a h
    ·exact h3
  have hN2:=hN.imp λa b h=>h.wide w2
  refine⟨_,rfl,ml,ms,rfl,SqL.of (s7 _ _ hm),ZW (xs:=ms) (λi σ H'=>∃(W:List D.T) (us:List V) (y1 y2 y3 y4:Option V),σ=[some v,some (.ref fp),some (.ref fm),some (.ref ml),some (.ref wl),y1,y2,some (.ref dl),y3,y4]/\Same H H'/\H' ml=some (.lst ms)/\H' wl≠none/\
   All2 (MetAt D S2 H') N ms/\H' dl=some (.lst us.reverse)/\All2 (D.res S2 H') W us/\Reach D t (N.take (N.length - i)) W) ?_ ?_ ?_ ?_⟩
  ·exact⟨[],[],_,_,_,_,rfl,sm.trans s7,s7 _ _ hm,(by rw[s7 _ _ hw];exact λz=>nomatch z),hN2.imp λa b h=>h.mono (.of s7),A2,.nil,by rw[sub_zero,take_length];exact hR⟩
  ·rintro i σ H' _ ⟨W,us,y1,y2,y3,y4,rfl,sm,hm,_⟩
   exact SqL.of hm
  ·rintro i x σ H' hx ⟨W,us,y1,y2,y3,y4,rfl,sm,hm,hwn,hN,hd,hW,hRi⟩
   have hi:i<ms.length:=by
    have:=(List.getElem?_eq_some_iff.mp hx).1
    simpa using this
   rw[getElem?_reverse hi]at hx
   obtain⟨n,hn,p,u,rfl,hp,hu'⟩:=hN.get hx
   have e1:N.length - i=(ms.length - 1 - i)+1:=by omega
   rw[e1,YU hn]at hRi
   obtain⟨r,rfl,hRb⟩:=hRi.back
   obtain⟨b1,b2,rfl,hb1,hb2⟩:=hW.split
   have hbl:=hb1.len
   have hkn:=D.kids_le n
   have hRs2:=hRb.size
   have hszn:D.size n<=400000:=by simp only[map_cons,sum_cons]at hRs2;omega
   refine⟨p,_,rfl,SqT.of hp,rfl,_,_,rfl,_,_,rfl,rfl, ?_⟩
   refine⟨_,rfl,((D.kids n).length:Nat),rfl,by omega,by omega,O5 (n:=(D.kids n).length) (λj ys H2=>ys=b1.take j/\H2=upd H' dl (.lst (b1.drop j++b2).reverse)) ?_ ?_ ?_ ?_⟩
   ·exact⟨rfl,by rw[drop_zero];exact(cmZ hd).symm⟩
   ·rintro j ys H2 hj ⟨rfl,_⟩
    rw[length_take]
    omega
   ·rintro j ys H2 hj ⟨rfl,rfl⟩
    refine CK ?_
    have hjb:j<b1.length:=by omega
    have ed:b1.drop j=b1[j]::b1.drop (j+1):=List.drop_eq_getElem_cons hjb
    rw[ed]
    refine⟨_,rfl,.inl ⟨rfl,_,SqL.of A2⟩,dl,_,_,rfl,rfl,A2,NB _ _, ?_⟩
    refine⟨?_, ?_⟩
    ·rw[List.take_succ_eq_append_getElem hjb]
    ·rw[KA]
     congr 2
     exact MX _ _
   ·rintro ys H2 ⟨rfl,rfl⟩ l hl
    rw[hbl,List.drop_length,take_length,List.nil_append]at*
    have s8:Same (upd H' dl (.lst b2.reverse)) (upd (upd H' dl (.lst b2.reverse)) l (.lst b1)):=A3 hl _
    have t8:Kp S2 H' (upd (upd H' dl (.lst b2.reverse)) l (.lst b1)):=(Kp.upd dS hd _).trans (.of s8)
    have wn8:upd (upd H' dl (.lst b2.reverse)) l (.lst b1) wl≠none:=by
     obtain⟨o,ho⟩:=ne_none_iff_exists'.mp hwn
     rw[s8 _ _ (L6 ho (Ne.symm ndw))];exact λz=>nomatch z
    have hd8:upd (upd H' dl (.lst b2.reverse)) l (.lst b1) dl=some (.lst b2.reverse):=s8 _ _ A2
    have hl8:upd (upd H' dl (.lst b2.reverse)) l (.lst b1) l=some (.lst b1):=A2
    have hm8:upd (upd H' dl (.lst b2.reverse)) l (.lst b1) ml=some (.lst ms):=s8 _ _ (L6 hm (Ne.symm ndm))
    have o8:Same H (upd (upd H' dl (.lst b2.reverse)) l (.lst b1)):=λb o e=>s8 _ _ (L6 (sm b o e) (C6 e hdl0))
    have hS8:=hS2 _ o8 (by rw[hm8];exact λz=>nomatch z) wn8 (by rw[hd8];exact λz=>nomatch z)
    have nlS:¬S2 l:=λz=>by
     refine hS2 _ (λb o e=>L6 (sm b o e) (C6 e hdl0)) ?_ ?_ (by rw[A2];exact λz=>nomatch z) l z hl
     ·rw[L6 hm (Ne.symm ndm)];exact λz=>nomatch z
     ·obtain⟨o,ho⟩:=ne_none_iff_exists'.mp hwn
      rw[L6 ho (Ne.symm ndw)];exact λz=>nomatch z
    have nlO:¬O l:=λz=>by
     obtain⟨o,ho⟩:=ne_none_iff_exists'.mp (hOo l z)
     rw[L6 (sm l o ho) (C6 ho hdl0)]at hl
     cases hl
    generalize upd (upd H' dl (.lst b2.reverse)) l (.lst b1)=H8 at s8 t8 hd8 hl8 hm8 o8 wn8 hS8⊢
    refine⟨_,rfl,.inl ⟨rfl,_,SqL.of hd8⟩,_,rfl,fm,dm,nm,aeZ D O,3,rfl,FM,hr.mono (by decide),km,bm,_,rfl,_,rfl,S2,n,u,l,b1,rfl,D.vm t8 hu',hszn,hl8,nlS,nlO,hS8,hb1.imp λa b h=>D.rm t8 h,λy H9 s9 hy=> ?_⟩
    have hb2l:=hb2.len
    have hrl:=D.len_le r
    refine⟨dl,_,_,rfl,rfl,s9 _ _ hd8, ?_, ?_⟩
    ·rw[length_reverse]
     simp only[map_cons,sum_cons]at hRs2
     omega
    have t9:Kp S2 H9 (upd H9 dl (.lst (b2.reverse++ [y]))):=.upd dS (s9 _ _ hd8) _
    have t89:Kp S2 H' (upd H9 dl (.lst (b2.reverse++ [y]))):=(t8.trans (.of s9)).trans t9
    have wn9:upd H9 dl (.lst (b2.reverse++ [y])) wl≠none:=by
     obtain⟨o,ho⟩:=ne_none_iff_exists'.mp wn8
     rw[L6 (s9 _ _ ho) (Ne.symm ndw)];exact λz=>nomatch z
    refine⟨n::r,y::b2,_,_,_,_,rfl,λb o e=>L6 (s9 _ _ (o8 b o e)) (C6 e hdl0),L6 (s9 _ _ hm8) (Ne.symm ndm),wn9,hN.imp λa b h=>h.mono t89, ?_,.cons (D.rm t9 hy) (hb2.imp λa b h=>D.rm t89 h), ?_⟩
    ·rw[reverse_cons];exact A2
    ·have e2:N.length - (i+1)=ms.length - 1 - i:=by omega
     rw[e2];exact hRb
  ·rintro σ H' ⟨W,us,y1,y2,y3,y4,rfl,sm,hm,hwn,hN,hd,hW,hRi⟩
   rw[<-hms,Nat.sub_self,List.take_zero]at hRi
   cases hRi.first
   cases hW with
   | @cons _ y _ us hy hrest=>
    cases hrest
    refine⟨_,rfl,.inl ⟨rfl,_,SqL.of hd⟩,dl,_,_,rfl,rfl,hd,rfl, ?_⟩
    exact q y _ (λb o e=>L6 (sm b o e) (C6 e hdl0)) (D.rw' (λa ha=> .inl (sub2 a ha)) (D.rm (.upd dS hd _) hy))
end
end BV
namespace PL
open PySem L2 BV CL
inductive Pv where
 |int (i:Int)|bl (b:Bool)|nil|cons (h t:Pv)
noncomputable def heads:Pv->List Pv
 | .cons h t=>h::heads t
 |_=> []
noncomputable def size:Pv->Nat
 | .cons h t=>size h+size t
 |_=>1
theorem EN:∀t:Pv,1<=size t
 | .int _=>le_refl _
 | .bl _=>le_refl _
 | .nil=>le_refl _
 | .cons h t=>le_trans (EN h) (le_add_right _ _)
theorem SS:∀t:Pv,size t=1+((heads t).map size).sum
 | .int _=>rfl
 | .bl _=>rfl
 | .nil=>rfl
 | .cons h t=>by
  show size h+size t=1+((h::heads t).map size).sum
  rw[map_cons,sum_cons,SS t];omega
noncomputable def VR(H:Hp)(us:List V):Pv->V->Prop
 | .int i,v=>v=.int i
 | .bl b,v=>v=.bl b
 | .nil,v=>v=.non
 | .cons h t,v=>∃(p:Addr) (k:Nat) (c:Addr) (hv tv:V),v=.ref p/\H p=some (.tup [.str "cell",.int (k:Nat)])/\us[k]? =some (.ref c)/\H c=some (.tup [.str "pair",hv,tv])/\VR H us h hv/\VR H us t tv
theorem VR.mono{H H':Hp}{us:List V}(m:Mo H H'):∀ {t:Pv} {v:V},VR H us t v->VR H' us t v
 | .int _,_,h=>h
 | .bl _,_,h=>h
 | .nil,_,h=>h
 | .cons _ _,_,⟨p,k,c,hv,tv,e,h1,h2,h3,h4,h5⟩=>⟨p,k,c,hv,tv,e,m _ _ h1,h2,m _ _ h3,VR.mono m h4,VR.mono m h5⟩
noncomputable def R(ok:AS)(H:Hp):Pv->(V->Prop)×(List V->Prop)
 | .int i=>(λv=>v=.int i,λrs=>rs=[])
 | .bl b=>(λv=>v=.bl b,λrs=>rs=[])
 | .nil=>(λv=>∃a,v=.ref a/\H a=some (.lst [])/\ok a,λrs=>rs=[])
 | .cons h t=>(λv=>∃a r rs,v=.ref a/\H a=some (.lst (r::rs))/\ok a/\(R ok H h).1 r/\(R ok H t).2 rs,λrs=>∃r rs',rs=r::rs'/\(R ok H h).1 r/\(R ok H t).2 rs')
theorem R.items{ok:AS}{H:Hp}:∀ {t:Pv} {rs:List V},(R ok H t).2 rs->All2 (λt r=>(R ok H t).1 r) (heads t) rs
 | .int _,_,h=>by cases h;exact .nil
 | .bl _,_,h=>by cases h;exact .nil
 | .nil,_,h=>by cases h;exact .nil
 | .cons _ _,_,⟨r,rs,e,h1,h2⟩=>by subst e;exact .cons h1 (R.items h2)
theorem R.of_items{ok:AS}{H:Hp}:∀ {t:Pv} {rs:List V},All2 (λt r=>(R ok H t).1 r) (heads t) rs->(R ok H t).2 rs
 | .int _,_,h=>by cases h;rfl
 | .bl _,_,h=>by cases h;rfl
 | .nil,_,h=>by cases h;rfl
 | .cons _ _,_,h=>by cases h with|cons h1 h2=>exact⟨_,_,rfl,h1,R.of_items h2⟩
theorem R.mono{ok ok':AS}{H H':Hp}(m:∀a xs,ok a->H a=some (.lst xs)->H' a=some (.lst xs)/\ok' a):∀ {t:Pv},(∀ {v:V},(R ok H t).1 v->(R ok' H' t).1 v)/\∀ {rs:List V},(R ok H t).2 rs->(R ok' H' t).2 rs
 | .int _=>⟨λh=>h,λh=>h⟩
 | .bl _=>⟨λh=>h,λh=>h⟩
 | .nil=>⟨λ⟨a,e,h1,h2⟩=>⟨a,e,(m a _ h2 h1).1,(m a _ h2 h1).2⟩,λh=>h⟩
 | .cons h t=>⟨λ⟨a,r,rs,e,h1,h2,h3,h4⟩=>⟨a,r,rs,e,(m a _ h2 h1).1,(m a _ h2 h1).2,(R.mono m (t:=h)).1 h3,(R.mono m (t:=t)).2 h4⟩,
  λ⟨r,rs,e,h3,h4⟩=>⟨r,rs,e,(R.mono m (t:=h)).1 h3,(R.mono m (t:=t)).2 h4⟩⟩
theorem cVZ{S:AS}{H H':Hp}(k:Kp S H H'):Mo H H':=k.1
noncomputable def Dt(C o L:Addr)(us:List V)(O:AS):Tr where
 T:=Pv
 kids:=heads
 size:=size
 val:=λS H t v=>CAt C H o L us/\¬S o/\¬S L/\VR H us t v
 res:=λS H t r=>(R (λa=>¬O a/\¬S a) H t).1 r
 hsz:=SS
 vm:=λk ⟨⟨dx,h1,h2⟩,n1,n2,h⟩=>⟨⟨dx,k.2 _ _ h1 n1,k.2 _ _ h2 n2⟩,n1,n2,h.mono (cVZ k)⟩
 rm:=λk h=>(R.mono λa xs ha e=>⟨k.2 _ _ e ha.2,ha⟩).1 h
 vw:=λwd ⟨⟨dx,h1,h2⟩,n1,n2,h⟩=>⟨⟨dx,h1,h2⟩,λz=>(wd _ z).elim n1 (λe=>by rw[h1]at e;cases e),λz=>(wd _ z).elim n2 (λe=>by rw[h2]at e;cases e),h⟩
 rw':=λwd h=>(R.mono λa xs ha e=>⟨e,ha.1,λz=>(wd _ z).elim ha.2 λq=>by rw[e]at q;cases q⟩).1 h
end PL
namespace PL
open PySem L2 BV CL
seal PE PT PW PA PS PSs PTs PI PG PGs PO
noncomputable abbrev s_is_cell:Stmt:=CL.top 5
noncomputable abbrev s_heads_of:Stmt:=CL.top 7
noncomputable abbrev s_with_heads:Stmt:=CL.top 8
noncomputable abbrev UZ:List Str:=["value"]
theorem sc_is_cell:FnScope UZ ["value"] (A9 s_is_cell):=fS
noncomputable abbrev QJ:List Str:=["cells","value","found","rest","cell"]
theorem sc_heads_of:FnScope QJ KJ (A9 s_heads_of):=fS
noncomputable abbrev KC:List Str:=["value","heads"]
theorem sc_with_heads:FnScope KC WF (A9 s_with_heads):=fS
section
variable{P:Program}{w:World}{K:FZ}{mg:Str->Option Value}{base:Heap}{C fi f fic:Addr}{di fd dic:FuncData}{mf:Str->Addr}{md:Str->FuncData}
noncomputable def isC(t:Pv):Bool:=match t with
 | .cons _ _=>true
 |_=>false
theorem brZ{H:Hp}{us:List V}{t:Pv}{v:V}(h:VR H us t v):∃ty,TyOf K H v ty/\kitOne K ty (.type "tuple")=some (isC t):=by
 cases t with
 |int i=>cases h;exact⟨_,.int i,rfl⟩
 |bl b=>cases h;exact⟨_,.bl b,rfl⟩
 |nil=>cases h;exact⟨_,.non,rfl⟩
 |cons a b=>obtain⟨p,k,c,hv,tv,rfl,h1,_⟩:=h;exact⟨_,.tup h1,QM⟩
inductive spIsW (K:FZ) (vs:List V) (H:Hp) (Q:VK):Prop
 |mk:∀x ty b,(vs=[x])->(TyOf K H x ty)->(kitOne K ty (.type "tuple")=some b)->(Q (.bl b) H)->spIsW K vs H Q
noncomputable def cxZ(K:FZ):Sp:=λvs H Q _=>spIsW K vs H Q
theorem ok_is_cell(F:Fun K "is_cell" "is_cell" s_is_cell f fd)(B:CL.NoG mg):FnOk P w K mg base CX0 1 f fd ["value"] (cxZ K):=by
 refine F.ok sc_is_cell (λvs H Q E h=> ?_) (λcdv A outer s H vs Q E hr h=> ?_)
 ·obtain⟨x,ty,b,rfl,_⟩:=h
  rfl
 obtain⟨x,ty,b,rfl,h1,h2,q⟩:=h
 have nd:=sc_is_cell.nd
 refine⟨_,(A7 (B5 (B9 (S4 (K:=K)) rfl B.isinstance_ D3 (A0 (pv 0) (A0 (K8 (v:=.ty "tuple") rfl B.tuple_ P4 rfl) A4))))), ?_⟩
 exact⟨_,rfl,_,_,_,_,rfl,h1,h2,q⟩
inductive spHeadsW (C:Addr) (vs:List V) (H:Hp) (Q:VK):Prop
 |mk:∀(o L:Addr) (us:List V) (t:Pv) (v:V),(vs=[.ref o,v])->(CAt C H o L us)->(VR H us t v)->(size t<=400000)->(∀r ps,H r=none->All2 (VR H us) (heads t) ps->Q (.ref r) (upd H r (.lst ps)))->spHeadsW C vs H Q
noncomputable def TK(C:Addr):Sp:=λvs H Q _=>spHeadsW C vs H Q
theorem ok_heads_of(F:Fun K "heads_of" "heads_of" s_heads_of f fd)(RC:RCls K C mf md)(OQ:∀k,FnOk P w K mg base CX0 (k+1) (mf "at") (md "at") GZ (aXZ C))
  (BX:FnOk P w K mg base CX0 1 fic dic ["value"] (cxZ K))(BW:mg "is_cell"=some (.ref fic))(BQ:kZ K (.ref fic)=true)(BR:Binds K dic ["value"] []):
  FnOk P w K mg base CX0 2 f fd KJ (TK C):=by
 refine F.ok sc_heads_of (λvs H Q E h=> ?_) (λcdv A outer s H vs Q E hr h=> ?_)
 ·obtain⟨o,L,us,t,v,rfl,_⟩:=h
  rfl
 obtain⟨o,L,us,t,v,rfl,hc,ht,hz,q⟩:=h
 have nd:=sc_heads_of.nd
 have hu:=hr.units0
 have zz:(400000:Nat)<sizeLine:=by decide
 have OQ:=OQ 0
 refine⟨_,(A6 (C5 (i:=2) nd rfl (Or.inl rfl) (D4 A4))
   (A6 (C5 (i:=3) nd rfl (Or.inl rfl) (pv 1))
   (A6 (D8 (MV PassesOwn.never (N1 (K:=K) (B1 BX (hr.mono (by omega)) rfl BW BQ BR .nil B8 (A0 (pv 3) A4)) (λ_=>rfl)) (A6 (C5 (i:=4) nd rfl (Or.inl rfl) (O1 (pv 0) RC.cl RC.m_at OQ (hr.mono (by omega)) RC.b_at .nil B8 (A0 (pv 3) A4)))
   (A6 (C0 (M9 (K:=K) PySem.F.plainAttrs_list PySem.F.slot_list_append PySem.F.type_list_append C3 (pv 2) (A0 (ixE K w (pv 4) A5) A4)))
   (A7 (C5 (i:=3) nd rfl (Or.inl rfl) (ixE K w (pv 4) A5)))))))
   (A7 (B5 (pv 2)))))), ?_⟩
 refine⟨(by show 0<=sizeLine;decide),λfl hfl=> ?_⟩
 have sm:∀ps,Same H (upd H fl (.lst ps)):=λps=>A3 hfl _
 refine⟨_,rfl,fun σ H'=>∃ps y1 y2,σ=[some (.ref o),some v,some (.ref fl),y1,y2]/\H'=upd H fl (.lst ps)/\All2 (VR H us) (heads t) ps, ?_, ?_⟩
 ·refine⟨λm σ H'=>∃(t':Pv) (rest:V) (hs:List Pv) (ps:List V) (y2:Option V),σ=[some (.ref o),some v,some (.ref fl),some rest,y2]/\H'=upd H fl (.lst ps)/\VR H us t' rest/\heads t=hs++heads t'/\All2 (VR H us) hs ps/\hs.length+size t'<=400000/\m=size t',
   ⟨size t,t,v,[],[],none,rfl,rfl,ht,rfl,.nil,by simpa using hz,rfl⟩, ?_⟩
  rintro m σ H' ⟨t',rest,hs,ps,y2,rfl,rfl,hr',hh,hA,hl,rfl⟩
  have hm:Mo H (upd H fl (.lst ps)):=B6 (sm ps)
  obtain⟨ty,h1,h2⟩:=brZ (K:=K) (hr'.mono hm)
  refine⟨_,rfl,_,_,_,rfl,h1,h2, ?_⟩
  refine⟨isC t',rfl, ?_⟩
  have hsz:=hA.len
  cases t' with
  |cons a b=>
   refine CL.ifT rfl ⟨_,λ_ _ h=>h, ?_⟩
   obtain⟨p,k,c,hv,tv,rfl,p1,p2,p3,p4,p5⟩:=hr'
   obtain⟨dx,c1,c2⟩:=hc
   have hfp:upd H fl (.lst ps) fl=some (.lst ps):=A2
   refine⟨_,rfl,o,dx,_,rfl,sm ps _ _ c1,rfl,_,rfl,o,L,us,p,k,.ref c,rfl,⟨dx,sm ps _ _ c1,sm ps _ _ c2⟩,hm _ _ p1,p2, ?_⟩
   have hsp:=EN a
   have hsp2:=EN b
   have e5:size (Pv.cons a b)=size a+size b:=rfl
   refine⟨_,rfl,.inl ⟨rfl,_,SqL.of hfp⟩,_,rfl,(ixT (hm _ _ p3) rfl ⟨fl,ps,_,rfl,rfl,hfp,by omega, ?_⟩)⟩
   rw[KA]
   refine⟨_,rfl,(ixT (B6 (sm _) _ _ p3) rfl ?_)⟩
   exact⟨size b,by omega,b,tv,hs++ [a],ps++ [hv],_,rfl,rfl,p5,by rw[hh];simp[heads],hA.app (.cons p4 .nil),by rw[length_append,length_singleton];omega,rfl⟩
  |int i=>exact CL.ifF nZ ⟨ps,_,_,rfl,rfl,by rw[hh];simpa [heads]using hA⟩
  |bl i=>exact CL.ifF nZ ⟨ps,_,_,rfl,rfl,by rw[hh];simpa [heads]using hA⟩
  |nil=>exact CL.ifF nZ ⟨ps,_,_,rfl,rfl,by rw[hh];simpa [heads]using hA⟩
 ·rintro σ H' ⟨ps,y1,y2,rfl,rfl,hA⟩
  exact⟨_,rfl,q fl ps hfl hA⟩
theorem ok_with_heads{o L:Addr}{us:List V}{O:AS}(F:Fun K "with_heads" "with_heads" s_with_heads f fd)
  (BX:FnOk P w K mg base CX0 1 fic dic ["value"] (cxZ K))(BW:mg "is_cell"=some (.ref fic))(BQ:kZ K (.ref fic)=true)(BR:Binds K dic ["value"] []):
  FnOk P w K mg base CX0 2 f fd WF (aeZ (Dt C o L us O) O):=by
 refine F.ok sc_with_heads (λvs H Q E h=> ?_) (λcdv A outer s H vs Q E hr h=> ?_)
 ·obtain⟨S,t,v,l,rs,rfl,_⟩:=h
  rfl
 obtain⟨S,t,v,l,rs,rfl,⟨hc,n1,n2,hv⟩,hz,hl,nS,nO,hS,hA,q⟩:=h
 have nd:=sc_with_heads.nd
 have hu:=hr.units0
 obtain⟨ty,h1,h2⟩:=brZ (K:=K) hv
 have hA':All2 (λt r=>(R (λa=>¬O a/\¬S a) H t).1 r) (heads t) rs:=hA
 have fin:∀r,(R (λa=>¬O a/\¬S a) H t).1 r->Q r H:=λr h=>q r H (λ_ _ e=>e) h
 refine⟨_,(A7 (B5 (Q4 (PW.pt (X8 (B2 RN (pv 0) N7 rfl) (W0 (N1 (K:=K) (B1 BX (hr.mono (by omega)) rfl BW BQ BR .nil B8 (A0 (pv 0) A4)) (λ_=>rfl))))) (pv 1) (pv 0)))), ?_⟩
 cases t with
 |int i=>cases hv;exact⟨_,rfl,rfl,_,rfl,CL.ifF (by simp) ⟨_,rfl,_,_,_,rfl,h1,h2,_,rfl,CL.ifF nZ ⟨_,rfl,fin _ rfl⟩⟩⟩
 |bl i=>cases hv;exact⟨_,rfl,rfl,_,rfl,CL.ifF (by simp) ⟨_,rfl,_,_,_,rfl,h1,h2,_,rfl,CL.ifF nZ ⟨_,rfl,fin _ rfl⟩⟩⟩
 |nil=>cases hv;cases hA';exact⟨_,rfl,rfl,_,rfl,CL.ifT (by simp) (CL.ifT rfl ⟨_,rfl,fin _ ⟨l,rfl,hl,nO,nS⟩⟩)⟩
 |cons a b=>
  obtain⟨p,k,c,hv,tv,rfl,_⟩:=hv
  cases hA' with
  |cons r1 r2=>exact⟨_,rfl,rfl,_,rfl,CL.ifF (by simp) ⟨_,rfl,_,_,_,rfl,h1,h2,_,rfl,CL.ifT rfl ⟨_,rfl,fin _ ⟨l,_,_,rfl,hl,⟨nO,nS⟩,r1,R.of_items r2⟩⟩⟩⟩
end
noncomputable abbrev s_plain:Stmt:=CL.top 6
noncomputable abbrev atZ:List Str:=["cells","value"]
theorem sc_plain:FnScope atZ KJ (A9 s_plain):=fS
noncomputable def akZ:Expr:=match E5 s_plain with
 | [.Return (some (.Call _ [_,l,_] _ _)) _]=>l
 |_=> .Constant .none 0 ⟨0,0,0,0⟩
noncomputable def bOZ:Arguments:=match akZ with
 | .Lambda p _ _ _=>p
 |_=>⟨[],[],none,[],[],none,[]⟩
noncomputable def bRZ:Expr:=match akZ with
 | .Lambda _ b _ _=>b
 |e=>e
noncomputable def lamS:Scope:=match akZ with
 | .Lambda _ _ s _=>s
 |_=> {kind:=.function,names:=[],isGenerator:=false,isCoroutine:=false}
noncomputable def lamAt:Pos:=match akZ with
 | .Lambda _ _ _ p=>p
 |_=>⟨0,0,0,0⟩
theorem cAZ:∀y∈lamS.names,y.2=.free->y.1∈(["cells"]:List Str):=by decide +kernel
theorem b0Z:LamScope ["one"] ["cells"] lamS:=⟨rfl,rfl,rfl,by decide +kernel,by decide +kernel,by decide +kernel,λx h=>cAZ _ (PySem.mem_of_lookup h) rfl,by decide +kernel⟩
noncomputable def lamQ:Str:=("plain":Str)++ ".<locals>."++ "<lambda>"
noncomputable def clos(n:Nat):List (Str×Addr):=[("cells",n+1)]
theorem aQZ(n f:Addr)(cdv:Value):closureFor lamS (PyProof.Rows.envOfC "plain" (A9 s_plain) n f cdv)=pure (clos n):=by rfl
section
variable{P:Program}{w:World}{K:FZ}{mg:Str->Option Value}{base:Heap}{C f fic fh fb fw c Pt:Addr}{fd dic dh db dw:FuncData}{mf:Str->Addr}{md:Str->FuncData}
theorem cap{CX:CXT}{cdv:Value}{A:Around}{outer:List Env}{s:Shared}{H:Hp}{E:XK}:CapOk (LX CX P w K mg base KJ "plain" (A9 s_plain) f cdv A outer s H E).nox (clos s.heap.objs.size) ["cells"] [0]:=by
 refine⟨λx c h=> ?_,λx h=> ?_,λx h=> ?_,λx h=>rfl,λi x h=> ?_,rfl⟩
 ·show x∈(["cells"]:List Str)/\(clos s.heap.objs.size).lookup x=some c
  refine⟨?_,h⟩
  unfold clos at h
  rw[lookup_cons]at h
  split at h
  ·rename_i e;rw[beq_iff_eq.mp e];exact mem_cons_self
  ·cases h
 ·have e:x="cells":=by simpa using h
  subst e;exact⟨_,rfl⟩
 ·have e:x="cells":=by simpa using h
  subst e;rfl
 ·cases i with
  |zero=>have e:("cells":Str)=x:=by simpa using h
         subst e;exact⟨0,rfl,rfl⟩
  |succ i=>simp at h
inductive spPlainW(C Pt:Addr)(vs:List V)(H:Hp)(Q:VK):Prop
 |mk:∀(o L:Addr) (us:List V) (t:Pv) (v:V),(vs=[.ref o,v])->(CAt C H o L us)->(VR H us t v)->(size t<=400000)->(X9 H Pt lamAt lamQ)->(∀r H',(∀b ob,H b=some ob->b≠Pt->H' b=some ob)->X9 H' Pt lamAt lamQ->(R (λa=>H a=none) H' t).1 r->Q r H')->spPlainW C Pt vs H Q
noncomputable def spPlain(C Pt:Addr):Sp:=λvs H Q _=>spPlainW C Pt vs H Q
theorem ok_plain(F:Fun K "plain" "plain" s_plain f fd)(hcode:fd.code=.ref c)(CH:PySem.W.CodeHd base c Pt)(BT:base.BuiltinsAt mg Pt)
  (NL:∀base,FnOk P w K mg base CX0 4 fb db aRZ (FY P w K mg base))(OJ:mg "built_up"=some (.ref fb))(PF:kZ K (.ref fb)=true)(OT:Binds K db aRZ [])
  (OF:∀base,FnOk P w K mg base CX0 2 fh dh KJ (TK C))(OO:mg "heads_of"=some (.ref fh))(NR:kZ K (.ref fh)=true)(NW:Binds K dh KJ [])
  (IV:∀(base:Heap) (o L:Addr) (us:List V) (O:AS),FnOk P w K mg base CX0 2 fw dw WF (aeZ (Dt C o L us O) O))(IQ:mg "with_heads"=some (.ref fw))(IK:kZ K (.ref fw)=true)(IN:Binds K dw WF []):
  FnOk P w K mg base CX0 5 f fd KJ (spPlain C Pt):=by
 refine F.okC sc_plain (λvs H Q E h=> ?_) (λcdv A outer s H vs Q E hcd hr h=> ?_)
 ·obtain⟨o,L,us,t,v,rfl,_⟩:=h
  rfl
 obtain rfl:Value.ref c=cdv:=hcode.symm.trans hcd
 obtain⟨o,L,us,t,v,rfl,hc,hv,hz,hT,q⟩:=h
 have nd:=sc_plain.nd
 refine⟨_,A7 (B5 (WG (name:="<lambda>") (qual:=lamQ) (params:=bOZ) (body:=bRZ) (scope:=lamS) (clos:=clos s.heap.objs.size) (pm:=(mg "__name__").getD .none) (fs:=["cells"]) (js:=[0]) (sp:=FY P w K mg) NL hr rfl OJ PF OT cap
  (A0 (pv 1) (A0 (cfZ (params:=bOZ) (body:=bRZ) (scope:=lamS) (pos:=lamAt) (pm:=(mg "__name__").getD .none) rfl rfl (aQZ _ _ _) rfl CH BT) (A0 (BK (v:=.ref fw) rfl IQ rfl) A4))))), ?_⟩
 refine⟨v,rfl,hT,λfl c' H1 hfn hF hC hT1 n1 n2 n3 hO hK=> ?_⟩
 refine⟨fl,c',[.ref o],⟨rfl,λi j h=> ?_⟩,hF,hC,n1,λbase' LA CA=> ?_⟩
 ·cases i with
  |zero=>have e:0=j:=by simpa using h
         subst e;exact⟨_,rfl,rfl⟩
  |succ i=>simp at h
 obtain⟨ctv,hfo⟩:=LA.fn
 generalize hH2:del (del H1 fl) c'=H2
 have keep2:∀b ob,H1 b=some ob->b≠fl->b≠c'->H2 b=some ob:=λb ob e a1 a2=>by rw[<-hH2,Y2 a2,Y2 a1];exact e
 have keepL:∀b ob,H b=some ob->b≠Pt->(∀φ,ob≠ .ext φ)->H2 b=some ob:=λb ob e a1 a2=>by
  have e1:=hK b ob e a1
  refine keep2 b ob e1 (λz=> ?_) (λz=> ?_)
  ·rw[z,hfn]at e;cases e
  ·rw[z,hC]at e1;exact a2 _ (Option.some.inj e1).symm
 obtain⟨qs,hqP,_⟩:=id hT
 have neP:∀ {b:Addr} {ob:HO},H b=some ob->(∀ps,ob≠ .tbl ps)->b≠Pt:=λ{b ob} e a z=>by rw[z,hqP]at e;exact a _ (Option.some.inj e).symm
 have hm2:Mo H H2:=λb xs e=>keepL b _ e (neP e λps z=>nomatch z) fun φ z=>nomatch z
 have hc2:CAt C H2 o L us:=by
  obtain⟨dx,h1,h2⟩:=hc
  exact⟨dx,keepL _ _ h1 (neP h1 (λps z=>nomatch z)) (fun φ z=>nomatch z),keepL _ _ h2 (neP h2 (λps z=>nomatch z)) (fun φ z=>nomatch z)⟩
 have FP:FnOk P w K mg base' CX0 3 fl (PySem.W.kla_fn "<lambda>" lamQ bOZ bRZ lamS (clos s.heap.objs.size) ((mg "__name__").getD .none) (.ref c') ctv) ["one"] (spP (Dt C o L us λa=>H2 a≠none)):=by
  refine b5Z hfo rfl LA.cd b0Z CA (λvs H Q E h=> ?_) (λA outer s H vs Q E hr h=> ?_)
  ·obtain⟨S,t,v,rfl,_⟩:=h
   rfl
  obtain⟨S,t,v,rfl,⟨hc,n1,n2,hv⟩,hz,q⟩:=h
  refine⟨_,B1 (OF base') hr rfl OO NR NW .nil B8 (A0 (pv 1) (A0 (pv 0) A4)), ?_⟩
  refine⟨_,rfl,_,rfl,o,L,us,t,v,rfl,hc,hv,hz,λr ps hr hA=> ?_⟩
  have sm:=A3 hr (.lst ps)
  exact q r _ ps sm hr A2 (hA.imp λa b h=>⟨hc.same sm,n1,n2,h.mono (B6 sm)⟩)
 refine⟨Dt C o L us λa=>H2 a≠none,λ_=>False,λa=>H2 a≠none,t,v,fl,fw,_,dw,["one"],WF,rfl,FP,.inr LA.fnAt,.all (λus hl=>match us,hl with| [_],_=>rfl),(IV base' o L us _).mono (by decide),.inl IK,IN,
  λa h=>h.elim,λa h=>h,⟨hc2,id,id,hv.mono hm2⟩,hz,λr H' sm hres hf' hc'=> ?_⟩
 have up:∀ {b:Addr} {ob:HO},H' b=some ob->upd H' c' (CodeO lamQ c') b=some ob:=λ{b ob} e=>by rw[B0 (C6 e hc')];exact e
 have k1:∀b ob,H1 b=some ob->b≠fl->upd H' c' (CodeO lamQ c') b=some ob:=λb ob e a=>by
  by_cases z:b=c'
  ·rw[z,hC]at e;cases e;rw[z];exact A2
  ·exact up (sm b ob (keep2 b ob e a z))
 refine q r _ (λb ob e a=>k1 b ob (hK b ob e a) λz=>by rw[z,hfn]at e;cases e) ?_ ?_
 ·obtain⟨ps,e1,e2,e3⟩:=hT1
  exact TabHit.ok ⟨ps,k1 _ _ e1 (Ne.symm n2),e2,e3⟩ A2
 ·refine(R.mono (λa xs ha e=>⟨up e, ?_⟩)).1 hres
  have a1:a≠c':=C6 e hc'
  have a2:a≠fl:=C6 e hf'
  have a3:H2 a=none:=by
   cases z:H2 a with
   |none=>rfl
   |some y=>exact absurd (show H2 a≠none by rw[z];simp) ha.1
  rw[<-hH2,Y2 a1,Y2 a2]at a3
  cases z:H a with
  |none=>rfl
  |some y=>
   by_cases p:a=Pt
   ·obtain⟨ps,e1,_⟩:=hT1
    rw[p,e1]at a3;cases a3
   ·rw[hK a y z p]at a3;cases a3
end
end PL
namespace MC
open PySem L2 BV CL SW
inductive Rw where
 |own (rk:Rk)|back|call (b m:Nat)|apply
structure Bk where
 par:Nat
 sz:Nat
 rows:List Rw
structure Fr where
 k:Nat
 at_:Nat
 sl:List Vl
 st:List Vl
inductive Ou where
 |value (v:Vl)|refused (w:Str)|dry|deep
structure Ms where
 cs:List Cl
 frs:List Fr
 out:Option Ou
 r:Nat
 c:Nat
inductive Eo2 where
 |fr (d:Nat) (sl st:List Vl)|rf (w:Str)|new (c:Cl) (st:List Vl)
inductive Er (cs:List Cl) (sl:List Vl):Rk->List Vl->Eo2->Prop
 |push {v st}:scV v=true->Er cs sl (.push v) st (.fr 1 sl (st++ [.sc v]))
 |non {st}:Er cs sl .non st (.fr 1 sl (st++ [.sc .non]))
 |load {j v st}:sl[j]? =some v->Er cs sl (.load j) st (.fr 1 sl (st++ [v]))
 |keep {j v st}:j<sl.length->Er cs sl (.keep j) (st++ [v]) (.fr 1 (sl.take j++ [v]++sl.drop (j+1)) st)
 |twoV {k a b v st}:k<6->Bd a->Bd b->NM.tw k a b=[.str "value",v]->scV v=true->Er cs sl (.two k) (st++ [.sc (.int a),.sc (.int b)]) (.fr 1 sl (st++ [.sc v]))
 |twoR {k a b w st}:k<6->Bd a->Bd b->NM.tw k a b=[.str "refused",.str w]->Er cs sl (.two k) (st++ [.sc (.int a),.sc (.int b)]) (.rf w)
 |cons {x y st}:Er cs sl .cons (st++ [x,y]) (.new (.pair x y) st)
 |headN {st}:Er cs sl .head (st++ [.sc .non]) (.rf "head")
 |tailN {st}:Er cs sl .tail (st++ [.sc .non]) (.rf "tail")
 |head {j h t st}:cs[j]? =some (.pair h t)->Er cs sl .head (st++ [.cell j]) (.fr 1 sl (st++ [h]))
 |tail {j h t st}:cs[j]? =some (.pair h t)->Er cs sl .tail (st++ [.cell j]) (.fr 1 sl (st++ [t]))
 |emptyN {st}:Er cs sl .empty (st++ [.sc .non]) (.fr 1 sl (st++ [.sc (.bl true)]))
 |empty {j st}:Er cs sl .empty (st++ [.cell j]) (.fr 1 sl (st++ [.sc (.bl false)]))
 |not {b st}:Er cs sl .not (st++ [.sc (.bl b)]) (.fr 1 sl (st++ [.sc (.bl (!b))]))
 |skip {n st}:Er cs sl (.skip n) st (.fr (1+n) sl st)
 |unless {n b st}:Er cs sl (.unless n) (st++ [.sc (.bl b)]) (.fr (1+if b=true then 0 else n) sl st)
 |close {b n st xs}:xs.length=n->n<=10->Er cs sl (.close b n) (st++xs) (.new (.fn b xs) st)
noncomputable def DB(bs:List Bk)(f:Fr):Option Rw:=(bs[f.k]?).bind λb=>b.rows[f.at_]?
noncomputable def begun(n sz:Nat)(vs:List Vl):Fr:=⟨n,0,vs++List.replicate (sz - vs.length) (.sc .non),[]⟩
noncomputable def U1(w:Rw):Prop:=(∃b m,w=.call b m)\/w=.apply
inductive Act (bs:List Bk) (most:Nat) (cs:List Cl) (fs:List Fr) (f:Fr) (r c:Nat):Rw->Ms->Prop
 |own {rk d sl st}:Er cs f.sl rk f.st (.fr d sl st)->Act bs most cs fs f r c (.own rk) ⟨cs,fs++ [⟨f.k,f.at_+d,sl,st⟩],none,r+1,c⟩
 |new {rk cl st}:Er cs f.sl rk f.st (.new cl st)->Act bs most cs fs f r c (.own rk) ⟨cs++ [cl],fs++ [⟨f.k,f.at_+1,f.sl,st++ [.cell cs.length]⟩],none,r+1,c⟩
 |rf {rk w}:Er cs f.sl rk f.st (.rf w)->Act bs most cs fs f r c (.own rk) ⟨cs,[],some (.refused w),r+1,c⟩
 |last {v st}:fs=[]->f.st=st++ [v]->Act bs most cs fs f r c .back ⟨cs,[],some (.value v),r+1,c⟩
 |back {gs g v st}:fs=gs++ [g]->f.st=st++ [v]->Act bs most cs fs f r c .back ⟨cs,gs++ [⟨g.k,g.at_,g.sl,g.st++ [v]⟩],none,r+1,c⟩
 |dry {w}:U1 w->most<=c->Act bs most cs fs f r c w ⟨cs,[],some .dry,r+1,c⟩
 |deep {w}:U1 w->c<most->60<=fs.length+1->Act bs most cs fs f r c w ⟨cs,[],some .deep,r+1,c+1⟩
 |call {b bk st xs}:c<most->fs.length+1<60->f.st=st++xs->bs[b]? =some bk->xs.length<=bk.sz->Act bs most cs fs f r c (.call b xs.length) ⟨cs,fs++ [⟨f.k,f.at_+1,f.sl,st⟩]++ [begun b bk.sz xs],none,r+1,c+1⟩
 |apply {b bk st j xs x}:c<most->fs.length+1<60->f.st=st++ [.cell j,x]->cs[j]? =some (.fn (b:Nat) xs)->bs[b]? =some bk->xs.length+1<=bk.sz->
  Act bs most cs fs f r c .apply ⟨cs,fs++ [⟨f.k,f.at_+1,f.sl,st⟩]++ [begun b bk.sz (xs++ [x])],none,r+1,c+1⟩
noncomputable def axZ(bs:List Bk)(most:Nat)(S S':Ms):Prop:=∃cs fs f r c w,S=⟨cs,fs++ [f],none,r,c⟩/\DB bs f=some w/\Act bs most cs fs f r c w S'
structure Small (S:Ms):Prop where
 cs:S.cs.length<=500
 frs:S.frs.length<=60
 fr:∀f∈S.frs,f.sl.length<=100/\f.st.length<=100
noncomputable def rwV:Rw->List V
 | .own rk=>rkV rk
 | .back=> [.str "back"]
 | .call b m=> [.str "call",.int (b:Nat),.int (m:Nat)]
 | .apply=> [.str "apply"]
noncomputable def RwAt(H:Hp)(r:Rw)(u:V):Prop:=∃p,u=.ref p/\H p=some (.tup (rwV r))
noncomputable def BAt(H:Hp)(b:Bk)(u:V):Prop:=∃t rs us,u=.ref t/\H t=some (.tup [.int (b.par:Nat),.int (b.sz:Nat),.ref rs])/\H rs=some (.tup us)/\All2 (RwAt H) b.rows us/\b.sz<=100
noncomputable def FAt(H:Hp)(f:Fr)(u:V):Prop:=∃p sl st,u=.ref p/\FrAt H p (f.k:Nat) (f.at_:Nat) sl st/\All2 (VAt H) f.sl sl/\All2 (VAt H) f.st st
noncomputable def OAt(H:Hp):Option Ou->V->Prop
 |none,u=>u=.non
 |some (.value x),u=>∃p v,u=.ref p/\H p=some (.tup [.str "value",v])/\VAt H x v
 |some (.refused w),u=>∃p,u=.ref p/\H p=some (.tup [.str "refused",.str w])
 |some .dry,u=>∃p,u=.ref p/\H p=some (.tup [.str "dry"])
 |some .deep,u=>∃p,u=.ref p/\H p=some (.tup [.str "deep"])
theorem RwAt.mo{H H':Hp}(m:Mo H H'){r:Rw}{u:V}(h:RwAt H r u):RwAt H' r u:=let⟨p,e,h1⟩:=h;⟨p,e,m _ _ h1⟩
theorem BAt.mo{H H':Hp}(m:Mo H H'){b:Bk}{u:V}(h:BAt H b u):BAt H' b u:=
 let⟨t,rs,us,e,h1,h2,h3,h4⟩:=h;⟨t,rs,us,e,m _ _ h1,m _ _ h2,h3.imp λ_ _ z=>RwAt.mo m z,h4⟩
theorem FAt.mo{H H':Hp}(m:Mo H H'){f:Fr}{u:V}(h:FAt H f u):FAt H' f u:=
 let⟨p,sl,st,e,⟨q,e',h1,h2,h3⟩,h4,h5⟩:=h;⟨p,sl,st,e,⟨q,e',m _ _ h1,m _ _ h2,m _ _ h3⟩,h4.imp λ_ _ z=>VAt.mo m z,h5.imp λ_ _ z=>VAt.mo m z⟩
theorem OAt.mo{H H':Hp}(m:Mo H H'):∀ {o:Option Ou} {u:V},OAt H o u->OAt H' o u
 |none,_,h=>h
 |some (.value _),_,⟨p,v,e,h1,h2⟩=>⟨p,v,e,m _ _ h1,VAt.mo m h2⟩
 |some (.refused _),_,⟨p,e,h1⟩=>⟨p,e,m _ _ h1⟩
 |some .dry,_,⟨p,e,h1⟩=>⟨p,e,m _ _ h1⟩
 |some .deep,_,⟨p,e,h1⟩=>⟨p,e,m _ _ h1⟩
structure Ad where
 m:Addr
 dx:Addr
 bl:Addr
 o:Addr
 L:Addr
 s:Addr
noncomputable def Ad.own(A:Ad):List Addr:=[A.m,A.bl,A.o,A.L,A.s]
noncomputable def N3(A:Ad)(most:Int)(out:V)(r c:Int):List (Str×V):=[("blocks",.ref A.bl),("most",.int most),("store",.ref A.o),("standing",.ref A.s),("outcome",out),("rows_so_far",.int r),("calls_so_far",.int c)]
structure MR (CM C:Addr) (H:Hp) (A:Ad) (bs us fs:List V) (most:Int) (out:V) (r c:Int):Prop where
 m:H A.m=some (.ins CM A.dx (N3 A most out r c))
 bl:H A.bl=some (.lst bs)
 o:CAt C H A.o A.L us
 s:H A.s=some (.lst fs)
 nLs:A.L≠A.s
 nbs:A.bl≠A.s
 nbL:A.bl≠A.L
structure MAt (CM C:Addr) (H:Hp) (A:Ad) (bs:List Bk) (most:Nat) (S:Ms):Prop where
 ex:∃vb us fs out,MR CM C H A vb us fs (most:Nat) out (S.r:Nat) (S.c:Nat)/\All2 (BAt H) bs vb/\All2 (ClAt H) S.cs us/\All2 (FAt H) S.frs fs/\OAt H S.out out
noncomputable def Kq(A:Ad)(H H':Hp):Prop:=∀b ob,H b=some ob->b∉A.own->H' b=some ob
theorem MR.ntup{CM C:Addr}{H:Hp}{A:Ad}{bs us fs:List V}{most r c:Int}{out:V}(h:MR CM C H A bs us fs most out r c){b:Addr}{xs:List V}(e:H b=some (.tup xs)):b∉A.own:=λhm=>by
 obtain⟨dx,ho,hL⟩:=h.o
 simp only[Ad.own,mem_cons,not_mem_nil,or_false]at hm
 rcases hm with z|z|z|z|z<;>rw[z]at e
 ·rw[h.m]at e;cases e
 ·rw[h.bl]at e;cases e
 ·rw[ho]at e;cases e
 ·rw[hL]at e;cases e
 ·rw[h.s]at e;cases e
theorem MR.mo{CM C:Addr}{H H':Hp}{A:Ad}{bs us fs:List V}{most r c:Int}{out:V}(h:MR CM C H A bs us fs most out r c)(k:Kq A H H'):Mo H H':=λ_ _ e=>k _ _ e (h.ntup e)
theorem MAt.same{CM C:Addr}{H H':Hp}{A:Ad}{bs:List Bk}{most:Nat}{S:Ms}(h:MAt CM C H A bs most S)(s:Same H H'):MAt CM C H' A bs most S:=by
 obtain⟨vb,us,fs,out,h1,h2,h3,h4,h5⟩:=h.ex
 have m:Mo H H':=B6 s
 exact⟨vb,us,fs,out,⟨s _ _ h1.m,s _ _ h1.bl,h1.o.same s,s _ _ h1.s,h1.nLs,h1.nbs,h1.nbL⟩,h2.imp λ_ _ z=>BAt.mo m z,h3.imp λ_ _ z=>ClAt.mo m z,h4.imp λ_ _ z=>FAt.mo m z,h5.mo m⟩
inductive EoR (H:Hp):Eo2->Eo->Prop
 |fr {d sl st sl' st'}:All2 (VAt H) sl sl'->All2 (VAt H) st st'->EoR H (.fr d sl st) (.fr (d:Nat) sl' st')
 |rf {w}:EoR H (.rf w) (.rf w)
 |pair {x y st x' y' st'}:VAt H x x'->VAt H y y'->All2 (VAt H) st st'->EoR H (.new (.pair x y) st) (.pair st' x' y')
 |fn {b:Nat} {xs st xs' st'}:All2 (VAt H) xs xs'->xs.length<=10->All2 (VAt H) st st'->EoR H (.new (.fn (b:Nat) xs) st) (.fn st' b xs')
theorem E1{α β:Type}{R:α->β->Prop}:∀ {as bs:List α} {cs:List β},All2 R (as++bs) cs->∃ds es,cs=ds++es/\All2 R as ds/\All2 R bs es
 | [],bs,cs,h=>⟨[],cs,rfl,.nil,h⟩
 |a::as,bs,cs,h=>by
  cases h with
  |cons h1 h2=>
   obtain⟨ds,es,e,h3,h4⟩:=E1 h2
   exact⟨_::ds,es,by rw[e];rfl,.cons h1 h3,h4⟩
theorem C4{α β:Type}{R:α->β->Prop}{as:List α}{a:α}{cs:List β}(h:All2 R (as++ [a]) cs):∃ds d,cs=ds++ [d]/\All2 R as ds/\R a d:=by
 obtain⟨ds,es,e,h1,h2⟩:=E1 h
 cases h2 with
 |cons h3 h4=>cases h4;exact⟨ds,_,e,h1,h3⟩
theorem E3{α β:Type}{R:α->β->Prop}{as:List α}{bs:List β}(h:All2 R as bs):∀ {j:Nat} {a:α},as[j]? =some a->∃b,bs[j]? =some b/\R a b:=by
 induction h with
 |nil=>intro j a e;simp at e
 |cons h _ ih=>
  intro j a e
  cases j with
  |zero=>simp only[List.getElem?_cons_zero,Option.some.injEq]at e;subst e;exact⟨_,rfl,h⟩
  |succ j=>simp only[List.getElem?_cons_succ]at e⊢;exact ih e
theorem CC{α β:Type}{R:α->β->Prop}{as:List α}{bs:List β}(h:All2 R as bs):∀n,All2 R (as.take n) (bs.take n):=by
 induction h with
 |nil=>intro n;simp only[List.take_nil];exact .nil
 |cons h _ ih=>
  intro n
  cases n with
  |zero=>exact .nil
  |succ n=>exact .cons h (ih n)
theorem all2_drop{α β:Type}{R:α->β->Prop}{as:List α}{bs:List β}(h:All2 R as bs):∀n,All2 R (as.drop n) (bs.drop n):=by
 induction h with
 |nil=>intro n;simp only[List.drop_nil];exact .nil
 |cons h t ih=>
  intro n
  cases n with
  |zero=>exact .cons h t
  |succ n=>exact ih n
theorem VAt.ns{H:Hp}:∀ {x:Vl} {v:V},VAt H x v->NS H v
 | .sc x,v,⟨e,h⟩=>by
  subst e
  cases v<;>first|exact .inl ⟨_,rfl⟩|exact .inr (.inl ⟨_,rfl⟩)|exact .inr (.inr (.inl rfl))|(cases h;done)
 | .cell k,v,⟨p,e,h⟩=> .inr (.inr (.inr ⟨p,_,e,h⟩))
theorem XF{H:Hp}{cs:List Cl}{us sl':List V}{sl:List Vl}(hc:All2 (ClAt H) cs us)(hs:All2 (VAt H) sl sl'){rk:Rk}{st:List Vl}{eo:Eo2}(h:Er cs sl rk st eo):∀ {st':List V},All2 (VAt H) st st'->∃eo',Ef H us sl' rk st' eo'/\EoR H eo eo':=by
 have n1:∀ {v:V},scV v=true->VAt H (.sc v) v:=λh=>⟨rfl,h⟩
 cases h with
 |push h=>exact λ{st'} ht=>⟨_,.push (WQ h),.fr hs (ht.app (.cons (n1 h) .nil))⟩
 |non=>exact λ{st'} ht=>⟨_,.non,.fr hs (ht.app (.cons (n1 rfl) .nil))⟩
 |load h=>
  intro st' ht
  obtain⟨v',hv,hR⟩:=E3 hs h
  exact⟨_,.load hv,.fr hs (ht.app (.cons hR .nil))⟩
 |keep h=>
  intro st' ht
  obtain⟨ds,d,rfl,h1,h2⟩:=C4 ht
  exact⟨_,.keep (by rw[<-hs.len];exact h),.fr (((CC hs _).app (.cons h2 .nil)).app (all2_drop hs _)) h1⟩
 |twoV h1 h2 h3 h4 h5=>
  intro st' ht
  obtain⟨ds,es,rfl,t1,t2⟩:=E1 ht
  cases t2 with
  |cons a1 t3=>
   cases t3 with
   |cons a2 t4=>
    cases t4
    obtain⟨rfl,_⟩:=a1
    obtain⟨rfl,_⟩:=a2
    exact⟨_,.twoV h1 h2 h3 h4 (VAt.ns (n1 h5)),.fr hs (t1.app (.cons (n1 h5) .nil))⟩
 |twoR h1 h2 h3 h4=>
  intro st' ht
  obtain⟨ds,es,rfl,t1,t2⟩:=E1 ht
  cases t2 with
  |cons a1 t3=>
   cases t3 with
   |cons a2 t4=>
    cases t4
    obtain⟨rfl,_⟩:=a1
    obtain⟨rfl,_⟩:=a2
    exact⟨_,.twoR h1 h2 h3 h4,.rf⟩
 |cons=>
  intro st' ht
  obtain⟨ds,es,rfl,t1,t2⟩:=E1 ht
  cases t2 with
  |cons a1 t3=>
   cases t3 with
   |cons a2 t4=>
    cases t4
    exact⟨_,.cons,.pair a1 a2 t1⟩
 |headN=>
  intro st' ht
  obtain⟨ds,d,rfl,h1,rfl,_⟩:=C4 ht
  exact⟨_,.headN,.rf⟩
 |tailN=>
  intro st' ht
  obtain⟨ds,d,rfl,h1,rfl,_⟩:=C4 ht
  exact⟨_,.tailN,.rf⟩
 |head h=>
  intro st' ht
  obtain⟨ds,d,rfl,h1,p,rfl,hp⟩:=C4 ht
  obtain⟨u,hu,c,x,y,rfl,hcc,hx,hy⟩:=E3 hc h
  exact⟨_,.head hp hu hcc (VAt.ns hx),.fr hs (h1.app (.cons hx .nil))⟩
 |tail h=>
  intro st' ht
  obtain⟨ds,d,rfl,h1,p,rfl,hp⟩:=C4 ht
  obtain⟨u,hu,c,x,y,rfl,hcc,hx,hy⟩:=E3 hc h
  exact⟨_,.tail hp hu hcc (VAt.ns hy),.fr hs (h1.app (.cons hy .nil))⟩
 |emptyN=>
  intro st' ht
  obtain⟨ds,d,rfl,h1,rfl,_⟩:=C4 ht
  exact⟨_,.emptyN,.fr hs (h1.app (.cons (n1 rfl) .nil))⟩
 |empty=>
  intro st' ht
  obtain⟨ds,d,rfl,h1,p,rfl,hp⟩:=C4 ht
  exact⟨_,.empty hp,.fr hs (h1.app (.cons (n1 rfl) .nil))⟩
 |not=>
  intro st' ht
  obtain⟨ds,d,rfl,h1,rfl,_⟩:=C4 ht
  exact⟨_,.not,.fr hs (h1.app (.cons (n1 rfl) .nil))⟩
 |skip=>exact λ{st'} ht=>⟨_,.skip,.fr hs ht⟩
 | @«unless» n b st=>
  intro st' ht
  obtain⟨ds,d,rfl,h1,rfl,_⟩:=C4 ht
  refine⟨_,.unless, ?_⟩
  have e:(1+if b=true then 0 else(n:Int))=((1+if b=true then 0 else n:Nat):Int):=by cases b<;>simp
  rw[e]
  exact .fr hs h1
 |close h h'=>
  intro st' ht
  obtain⟨ds,es,rfl,t1,t2⟩:=E1 ht
  exact⟨_,.close (by rw[<-t2.len];exact h),.fn t2 (by omega) t1⟩
end MC
namespace MC
open PySem L2 CL SW
open BV hiding ifT ifF NoG top
seal PE PT PW PA PS PSs PTs PI PG PGs PO
noncomputable abbrev s_end:Stmt:=J2 (top 31) 5
noncomputable abbrev s_has_value:Stmt:=J2 (top 31) 9
noncomputable abbrev s_frames:Stmt:=J2 (top 31) 11
noncomputable abbrev s_cells:Stmt:=J2 (top 31) 12
noncomputable abbrev s_rows_done:Stmt:=J2 (top 31) 13
noncomputable abbrev s_calls:Stmt:=J2 (top 31) 14
noncomputable abbrev s_go_on:Stmt:=J2 (top 31) 2
noncomputable abbrev djZ:List Str:=["self","outcome"]
theorem sc_end:FnScope djZ VY (A9 s_end):=fS
noncomputable abbrev MY:List Str:=["self"]
theorem sc_has_value:FnScope MY J1 (A9 s_has_value):=fS
noncomputable abbrev WS:List Str:=["self"]
theorem sc_frames:FnScope WS J1 (A9 s_frames):=fS
noncomputable abbrev afZ:List Str:=["self"]
theorem sc_cells:FnScope afZ J1 (A9 s_cells):=fS
noncomputable abbrev NH:List Str:=["self"]
theorem sc_rows_done:FnScope NH J1 (A9 s_rows_done):=fS
noncomputable abbrev ZX:List Str:=["self"]
theorem sc_calls:FnScope ZX J1 (A9 s_calls):=fS
noncomputable abbrev aDZ:List Str:=["self","told"]
theorem sc_go_on:FnScope aDZ aVZ (A9 s_go_on):=fS
structure MCls (K:FZ) (CM:Addr) (gf:Str->Addr) (gd:Str->FuncData):Prop where
 cl:Cls K CM
 n1:NoAttr K CM "blocks"
 n2:NoAttr K CM "most"
 n3:NoAttr K CM "store"
 n4:NoAttr K CM "standing"
 n5:NoAttr K CM "outcome"
 n6:NoAttr K CM "rows_so_far"
 n7:NoAttr K CM "calls_so_far"
 m_step:Meth K CM "step" (gf "step")
 m_go_on:Meth K CM "go_on" (gf "go_on")
 m_enter:Meth K CM "enter" (gf "enter")
 m_leave:Meth K CM "leave" (gf "leave")
 m_end:Meth K CM "end" (gf "end")
 m_collect:Meth K CM "collect" (gf "collect")
 m_hung_on:Meth K CM "hung_on" (gf "hung_on")
 m_hang_on:Meth K CM "hang_on" (gf "hang_on")
 m_has_value:Meth K CM "has_value" (gf "has_value")
 m_answer:Meth K CM "answer" (gf "answer")
 m_frames:Meth K CM "frames" (gf "frames")
 m_cells:Meth K CM "cells" (gf "cells")
 m_rows_done:Meth K CM "rows_done" (gf "rows_done")
 m_calls:Meth K CM "calls" (gf "calls")
 b_step:Binds K (gd "step") J1 []
 b_go_on:Binds K (gd "go_on") aVZ []
 b_enter:Binds K (gd "enter") aYZ []
 b_leave:Binds K (gd "leave") GZ []
 b_end:Binds K (gd "end") VY []
 b_collect:Binds K (gd "collect") J1 []
 b_hung_on:Binds K (gd "hung_on") J1 []
 b_hang_on:Binds K (gd "hang_on") ["self","values"] []
 b_has_value:Binds K (gd "has_value") J1 []
 b_answer:Binds K (gd "answer") J1 []
 b_frames:Binds K (gd "frames") J1 []
 b_cells:Binds K (gd "cells") J1 []
 b_rows_done:Binds K (gd "rows_done") J1 []
 b_calls:Binds K (gd "calls") J1 []
section
variable{A:Ad}{most r c:Int}{out:V}
theorem l1:(N3 A most out r c).lookup ("blocks":Str)=some (.ref A.bl):=by rfl
theorem l2:(N3 A most out r c).lookup ("most":Str)=some (.int most):=by rfl
theorem l3:(N3 A most out r c).lookup ("store":Str)=some (.ref A.o):=by rfl
theorem l4:(N3 A most out r c).lookup ("standing":Str)=some (.ref A.s):=by rfl
theorem l5:(N3 A most out r c).lookup ("outcome":Str)=some out:=by rfl
theorem l6:(N3 A most out r c).lookup ("rows_so_far":Str)=some (.int r):=by rfl
theorem l7:(N3 A most out r c).lookup ("calls_so_far":Str)=some (.int c):=by rfl
theorem lf:(N3 A most out r c).length<1000:=by show 7<1000;decide
theorem p3(o L:Addr):S9 ("store":Str) (.ref o) (N3 A most out r c)=N3 {A with o:=o,L:=L} most out r c:=by rfl
theorem p4(s:Addr):S9 ("standing":Str) (.ref s) (N3 A most out r c)=N3 {A with s:=s} most out r c:=by rfl
theorem p5(u:V):S9 ("outcome":Str) u (N3 A most out r c)=N3 A most u r c:=by rfl
theorem p6(n:Int):S9 ("rows_so_far":Str) (.int n) (N3 A most out r c)=N3 A most out n c:=by rfl
theorem p7(n:Int):S9 ("calls_so_far":Str) (.int n) (N3 A most out r c)=N3 A most out r n:=by rfl
variable{P:Program}{w:World}{K:FZ}{mg:Str->Option Value}{base:Heap}{CM C:Addr}{gf mf:Str->Addr}{gd md:Str->FuncData}
theorem MR.same{H H':Hp}{A:Ad}{bs us fs:List V}{most r c:Int}{out:V}(h:MR CM C H A bs us fs most out r c)(s:Same H H'):MR CM C H' A bs us fs most out r c:=
 ⟨s _ _ h.m,s _ _ h.bl,h.o.same s,s _ _ h.s,h.nLs,h.nbs,h.nbL⟩
theorem MR.om{H:Hp}{A:Ad}{bs us fs:List V}{most r c:Int}{out:V}(h:MR CM C H A bs us fs most out r c):A.o≠A.m:=λe=>by
 obtain⟨dx,ho,hL⟩:=h.o
 have hm:=h.m
 rw[e,hm]at ho
 injection ho with ho
 injection ho with _ _ ho
 have:=congrArg List.length ho
 simp[N3]at this
theorem MR.putM{H:Hp}{A:Ad}{bs us fs:List V}{most r c:Int}{out:V}(h:MR CM C H A bs us fs most out r c)(r' c':Int)(out':V):MR CM C (upd H A.m (.ins CM A.dx (N3 A most out' r' c'))) A bs us fs most out' r' c':=by
 obtain⟨dx,ho,hL⟩:=h.o
 have hm:=h.m
 have n1:A.bl≠A.m:=λe=>by have:=h.bl;rw[e,hm]at this;cases this
 have n3:A.L≠A.m:=λe=>by rw[e,hm]at hL;cases hL
 have n4:A.s≠A.m:=λe=>by have:=h.s;rw[e,hm]at this;cases this
 exact⟨A2,by rw[B0 n1];exact h.bl,⟨dx,by rw[B0 h.om];exact ho,by rw[B0 n3];exact hL⟩,by rw[B0 n4];exact h.s,h.nLs,h.nbs,h.nbL⟩
theorem MR.putS{H:Hp}{A:Ad}{bs us fs gs:List V}{most r c:Int}{out:V}(h:MR CM C H A bs us fs most out r c){s:Addr}(hs:H s=none):MR CM C (upd (upd H s (.lst gs)) A.m (.ins CM A.dx (N3 {A with s:=s} most out r c))) {A with s:=s} bs us gs most out r c:=by
 have t:=A3 hs (.lst gs)
 have g:=h.same t
 obtain⟨dx,ho,hL⟩:=g.o
 have hm:=g.m
 have n1:A.bl≠A.m:=λe=>by have:=g.bl;rw[e,hm]at this;cases this
 have n3:A.L≠A.m:=λe=>by rw[e,hm]at hL;cases hL
 have n4:s≠A.m:=λe=>by rw[e,h.m]at hs;cases hs
 have n5:A.L≠s:=λe=>by obtain⟨_,_,hL'⟩:=h.o;rw[e,hs]at hL';cases hL'
 have n6:A.bl≠s:=λe=>by have:=h.bl;rw[e,hs]at this;cases this
 exact⟨A2,by rw[B0 n1];exact g.bl,⟨dx,by rw[B0 g.om];exact ho,by rw[B0 n3];exact hL⟩,by rw[B0 n4];exact A2,n5,n6,h.nbL⟩
theorem MR.setS{H:Hp}{A:Ad}{bs us fs gs:List V}{most r c:Int}{out:V}(h:MR CM C H A bs us fs most out r c):MR CM C (upd H A.s (.lst gs)) A bs us gs most out r c:=by
 obtain⟨dx,ho,hL⟩:=h.o
 have n1:A.m≠A.s:=λe=>by have:=h.m;rw[e,h.s]at this;cases this
 have n2:A.o≠A.s:=λe=>by rw[e,h.s]at ho;cases ho
 exact⟨by rw[B0 n1];exact h.m,by rw[B0 h.nbs];exact h.bl,⟨dx,by rw[B0 n2];exact ho,by rw[B0 h.nLs];exact hL⟩,A2,h.nLs,h.nbs,h.nbL⟩
theorem RY(A:Ad):A.m∈A.own:=mem_cons_self ..
theorem cHZ(A:Ad):A.L∈A.own:=by simp[Ad.own]
theorem HQ(A:Ad):A.s∈A.own:=by simp[Ad.own]
theorem Kq.of{A:Ad}{H H':Hp}(s:Same H H'):Kq A H H':=λb o e _=>s b o e
theorem Kq.updO{A:Ad}{H:Hp}{b:Addr}(o:HO)(h:b∈A.own):Kq A H (upd H b o):=λx ob e n=>by rw[B0 (λz:x=b=>n (by rw[z];exact h))];exact e
theorem Kq.trans{A:Ad}{H H1 H2:Hp}(h:Kq A H H1)(h':Kq A H1 H2):Kq A H H2:=λb o e n=>h' b o (h b o e n) n
noncomputable def New(A A':Ad)(H:Hp):Prop:=A'.m=A.m/\∀x∈A'.own,x∈A.own\/H x=none
inductive spEndW (CM C:Addr) (vs:List V) (H:Hp) (Q:VK):Prop
 |mk:∀(A:Ad) (bs us fs:List V) (most:Int) (out:V) (r c:Int) (u:V),(vs=[.ref A.m,u])->(MR CM C H A bs us fs most out r c)->(∀s H',H s=none->Kq A H H'->MR CM C H' {A with s:=s} bs us [] most u r c->Q .non H')->spEndW CM C vs H Q
noncomputable def ST(CM C:Addr):Sp:=λvs H Q _=>spEndW CM C vs H Q
theorem ok_end(F:Fun K "end" "Machine.end" s_end (gf "end") (gd "end"))(RM:MCls K CM gf gd):FnOk P w K mg base CX0 1 (gf "end") (gd "end") VY (ST CM C):=by
 refine F.ok sc_end (λvs H Q E h=> ?_) (λcdv A outer s H vs Q E hr h=> ?_)
 ·obtain⟨A,bs,us,fs,most,out,r,c,u,rfl,_⟩:=h
  rfl
 obtain⟨A,bs,us,fs,most,out,r,c,u,rfl,hM,q⟩:=h
 have nd:=sc_end.nd
 refine⟨_,(A6 (U2 (pv 0) (D4 A4) rfl)
   (A7 (U2 (pv 0) (pv 1) rfl))), ?_⟩
 refine⟨(by show 0<=sizeLine;decide),λs hs=>⟨_,rfl,A.m,CM,A.dx,_,rfl,(A3 hs _) _ _ hM.m,RM.cl,RM.n4,lf, ?_⟩⟩
 rw[p4]
 have h1:=hM.putS (gs:=[]) hs
 have k1:Kq A H (upd (upd H s (.lst [])) A.m (.ins CM A.dx (N3 {A with s:=s} most out r c))):=(Kq.of (A3 hs _)).trans (Kq.updO _ (RY A))
 refine⟨_,rfl,_,rfl,A.m,CM,A.dx,_,rfl,h1.m,RM.cl,RM.n5,lf, ?_⟩
 rw[p5]
 exact q s _ hs (k1.trans (Kq.updO _ (RY A))) (h1.putM r c u)
noncomputable def OV(H:Hp)(u:V)(b:Bool):Prop:=(u=.non/\b=false)\/∃p w xs,u=.ref p/\H p=some (.tup (.str w::xs))/\b=decide (w="value")
noncomputable def XV:Option Ou->Bool
 |some (.value _)=>true
 |_=>false
theorem OAt.ov{H:Hp}:∀ {o:Option Ou} {u:V},OAt H o u->OV H u (XV o)
 |none,_,h=> .inl ⟨h,rfl⟩
 |some (.value _),_,⟨p,v,e,h1,h2⟩=> .inr ⟨p,_,_,e,h1,rfl⟩
 |some (.refused _),_,⟨p,e,h1⟩=> .inr ⟨p,_,_,e,h1,(show false=decide (("refused":Str)="value") by decide)⟩
 |some .dry,_,⟨p,e,h1⟩=> .inr ⟨p,_,_,e,h1,by decide⟩
 |some .deep,_,⟨p,e,h1⟩=> .inr ⟨p,_,_,e,h1,by decide⟩
inductive spHasVW (CM:Addr) (vs:List V) (H:Hp) (Q:VK):Prop
 |mk:∀(A:Ad) (most:Int) (out:V) (r c:Int) (b:Bool),(vs=[.ref A.m])->(H A.m=some (.ins CM A.dx (N3 A most out r c)))->(OV H out b)->(Q (.bl b) H)->spHasVW CM vs H Q
noncomputable def WM(CM:Addr):Sp:=λvs H Q _=>spHasVW CM vs H Q
theorem ok_has_value(F:Fun K "has_value" "Machine.has_value" s_has_value (gf "has_value") (gd "has_value"))(RM:MCls K CM gf gd):FnOk P w K mg base CX0 1 (gf "has_value") (gd "has_value") J1 (WM CM):=by
 refine F.ok sc_has_value (λvs H Q E h=> ?_) (λcdv A outer s H vs Q E hr h=> ?_)
 ·obtain⟨A,most,out,r,c,b,rfl,_⟩:=h
  rfl
 obtain⟨A,most,out,r,c,b,rfl,hm,ho,q⟩:=h
 have nd:=sc_has_value.nd
 have hu:=hr.units0
 refine⟨_,(A7 (B5 (CD (N2 EA (G3 (pv 0) rfl) N7 rfl) (CJ (N2 (kEq (K:=K) hu) (ixE K w (G3 (pv 0) rfl) A5) A8 rfl))))), ?_⟩
 refine⟨_,rfl,A.m,CM,A.dx,_,_,rfl,hm,RM.cl,RM.n5,l5, ?_⟩
 rcases ho with⟨rfl,rfl⟩|⟨p,w,xs,rfl,hp,rfl⟩
 ·exact⟨rfl,_,rfl,ifF (by simp) q⟩
 ·refine⟨rfl,_,rfl,ifT (by simp) ⟨_,rfl,A.m,CM,A.dx,_,_,rfl,hm,RM.cl,RM.n5,l5,(ixT (v:=.str w) hp (C9 (j:=0) rfl) (.inl ⟨rfl, ?_⟩))⟩⟩
  have e:decide (V.str w=V.str "value")=decide (w="value"):=by simp
  rw[<-e]at q
  exact q
inductive spFramesW (CM C:Addr) (vs:List V) (H:Hp) (Q:VK):Prop
 |mk:∀(A:Ad) (bs us fs:List V) (most:Int) (out:V) (r c:Int),(vs=[.ref A.m])->(MR CM C H A bs us fs most out r c)->(∀l,H l=none->Q (.ref l) (upd H l (.lst fs)))->spFramesW CM C vs H Q
noncomputable def FJ(CM C:Addr):Sp:=λvs H Q _=>spFramesW CM C vs H Q
theorem ok_frames(F:Fun K "frames" "Machine.frames" s_frames (gf "frames") (gd "frames"))(B:NoG mg)(RM:MCls K CM gf gd):FnOk P w K mg base CX0 1 (gf "frames") (gd "frames") J1 (FJ CM C):=by
 refine F.ok sc_frames (λvs H Q E h=> ?_) (λcdv A outer s H vs Q E hr h=> ?_)
 ·obtain⟨A,bs,us,fs,most,out,r,c,rfl,_⟩:=h
  rfl
 obtain⟨A,bs,us,fs,most,out,r,c,rfl,hM,q⟩:=h
 have nd:=sc_frames.nd
 refine⟨_,(A7 (B5 (K0 (X7 (K:=K)) rfl B.list_ N0 (A0 (G3 (pv 0) rfl) A4)))), ?_⟩
 exact⟨_,rfl,A.m,CM,A.dx,_,_,rfl,hM.m,RM.cl,RM.n4,l4,A.s,fs,rfl,.inl (SqL.of hM.s),q⟩
inductive spCellsMW (CM C:Addr) (vs:List V) (H:Hp) (Q:VK):Prop
 |mk:∀(A:Ad) (bs us fs:List V) (most:Int) (out:V) (r c:Int),(vs=[.ref A.m])->(MR CM C H A bs us fs most out r c)->(∀l,H l=none->Q (.ref l) (upd H l (.lst us)))->spCellsMW CM C vs H Q
noncomputable def FL(CM C:Addr):Sp:=λvs H Q _=>spCellsMW CM C vs H Q
theorem ok_cells(F:Fun K "cells" "Machine.cells" s_cells (gf "cells") (gd "cells"))(RM:MCls K CM gf gd)(RC:RCls K C mf md)(PH:FnOk P w K mg base CX0 1 (mf "told") (md "told") J1 (KD C)):FnOk P w K mg base CX0 2 (gf "cells") (gd "cells") J1 (FL CM C):=by
 refine F.ok sc_cells (λvs H Q E h=> ?_) (λcdv A outer s H vs Q E hr h=> ?_)
 ·obtain⟨A,bs,us,fs,most,out,r,c,rfl,_⟩:=h
  rfl
 obtain⟨A,bs,us,fs,most,out,r,c,rfl,hM,q⟩:=h
 have nd:=sc_cells.nd
 obtain⟨dx,ho,hL⟩:=hM.o
 refine⟨_,(A7 (B5 (G1 (G3 (pv 0) rfl) RC.cl RC.m_told PH (hr.mono (by omega)) RC.b_told .nil B8))), ?_⟩
 exact⟨_,rfl,A.m,CM,A.dx,_,_,rfl,hM.m,RM.cl,RM.n3,l3,A.o,dx,_,rfl,ho,rfl,A.o,A.L,us,rfl,⟨dx,ho,hL⟩,q⟩
inductive spNumMW (CM C:Addr) (rows:Bool) (vs:List V) (H:Hp) (Q:VK):Prop
 |mk:∀(A:Ad) (most:Int) (out:V) (r c:Int),(vs=[.ref A.m])->(H A.m=some (.ins CM A.dx (N3 A most out r c)))->(Q (.int (if rows=true then r else c)) H)->spNumMW CM C rows vs H Q
noncomputable def AU(CM C:Addr)(rows:Bool):Sp:=λvs H Q _=>spNumMW CM C rows vs H Q
theorem ok_rows_done(F:Fun K "rows_done" "Machine.rows_done" s_rows_done (gf "rows_done") (gd "rows_done"))(RM:MCls K CM gf gd):FnOk P w K mg base CX0 1 (gf "rows_done") (gd "rows_done") J1 (AU CM C true):=by
 refine F.ok sc_rows_done (λvs H Q E h=> ?_) (λcdv A outer s H vs Q E hr h=> ?_)
 ·obtain⟨A,most,out,r,c,rfl,_⟩:=h
  rfl
 obtain⟨A,most,out,r,c,rfl,hM,q⟩:=h
 have nd:=sc_rows_done.nd
 refine⟨_,(A7 (B5 (G3 (pv 0) rfl))), ?_⟩
 exact⟨_,rfl,A.m,CM,A.dx,_,_,rfl,hM,RM.cl,RM.n6,l6,q⟩
theorem ok_calls(F:Fun K "calls" "Machine.calls" s_calls (gf "calls") (gd "calls"))(RM:MCls K CM gf gd):FnOk P w K mg base CX0 1 (gf "calls") (gd "calls") J1 (AU CM C false):=by
 refine F.ok sc_calls (λvs H Q E h=> ?_) (λcdv A outer s H vs Q E hr h=> ?_)
 ·obtain⟨A,most,out,r,c,rfl,_⟩:=h
  rfl
 obtain⟨A,most,out,r,c,rfl,hM,q⟩:=h
 have nd:=sc_calls.nd
 refine⟨_,(A7 (B5 (G3 (pv 0) rfl))), ?_⟩
 exact⟨_,rfl,A.m,CM,A.dx,_,_,rfl,hM,RM.cl,RM.n7,l7,q⟩
end
noncomputable abbrev s_leave:Stmt:=J2 (top 31) 4
noncomputable abbrev s_enter:Stmt:=J2 (top 31) 3
noncomputable abbrev aaZ:List Str:=["self","value","below"]
theorem sc_leave:FnScope aaZ GZ (A9 s_leave):=fS
noncomputable abbrev ZY:List Str:=["self","frame","row","frames"]
theorem sc_enter:FnScope ZY aYZ (A9 s_enter):=fS
theorem JZ{α:Type}(xs:List α)(x:α):ixN (xs++ [x]).length (-1)=some xs.length:=by
 unfold ixN
 rw[if_neg (by decide),if_pos (by simp;omega)]
 congr 1
 simp
 omega
theorem EZ{α:Type}(xs:List α)(x y:α):(xs++ [x]).set xs.length y=xs++ [y]:=by simp
section
variable{P:Program}{w:World}{K:FZ}{mg:Str->Option Value}{base:Heap}{CM C:Addr}{gf mf:Str->Addr}{gd md:Str->FuncData}{EM:Addr}{EJ:FuncData}
inductive spGoOnW(CM C:Addr)(vs:List V)(H:Hp)(Q:VK):Prop
 |mk:∀(A:Ad) (bs us fs:List V) (most:Int) (out:V) (r c:Int) (p:Addr),(vs=[.ref A.m,.ref p])->(MR CM C H A bs us fs most out r c)->(((∃q fs0 f0,H p=some (.tup [.str "frame",.ref q])/\fs=fs0++ [f0]/\∀H',Kq A H H'->MR CM C H' A bs us (fs0++ [.ref q]) most out r c->Q .non H')\/(∃w,H p=some (.tup [.str "refused",.str w])/\∀s H',H s=none->Kq A H H'->MR CM C H' {A with s:=s} bs us [] most (.ref p) r c->Q .non H')))->spGoOnW CM C vs H Q
noncomputable def YE(CM C:Addr):Sp:=λvs H Q _=>spGoOnW CM C vs H Q
theorem ok_go_on(F:Fun K "go_on" "Machine.go_on" s_go_on (gf "go_on") (gd "go_on"))(RM:MCls K CM gf gd)
  (HI:FnOk P w K mg base CX0 1 (gf "end") (gd "end") VY (ST CM C)):FnOk P w K mg base CX0 2 (gf "go_on") (gd "go_on") aVZ (YE CM C):=by
 refine F.ok sc_go_on (λvs H Q E h=> ?_) (λcdv A outer s H vs Q E hr h=> ?_)
 ·obtain⟨A,bs,us,fs,most,out,r,c,p,rfl,_⟩:=h
  rfl
 obtain⟨A,bs,us,fs,most,out,r,c,p,rfl,hM,h⟩:=h
 have nd:=sc_go_on.nd
 have hu:=hr.units0
 refine⟨_,(A7 (D8 (C8 (B2 (kEq (K:=K) hu) (ixE K w (pv 1) A5) A8 rfl) (A7 (P8 (ixE K w (pv 1) A5) (W3 (G3 (pv 0) rfl) (J0 E4 A5) S8))) (A7 (C0 (O1 (pv 0) RM.cl RM.m_end HI (hr.mono (by omega)) RM.b_end .nil B8 (A0 (pv 1) A4))))))), ?_⟩
 refine⟨λ_ H'=>Q .non H', ?_,λ_ _ h=>h⟩
 rcases h with⟨q,fs0,f0,hp,rfl,fin⟩|⟨w,hp,fin⟩
 ·refine⟨_,rfl,(ixT hp rfl (.inl ⟨rfl,_,rfl,ifT rfl ?_⟩))⟩
  refine⟨_,rfl,(ixT hp rfl ?_)⟩
  refine⟨_,rfl,A.m,CM,A.dx,_,_,rfl,hM.m,RM.cl,RM.n4,l4,_,rfl,A.s,_,_,fs0.length,rfl,rfl,hM.s,JZ _ _, ?_⟩
  rw[EZ]
  exact fin _ (Kq.updO _ (HQ A)) hM.setS
 ·refine⟨_,rfl,(ixT hp rfl (.inl ⟨rfl,_,rfl,ifF (by decide) ?_⟩))⟩
  exact⟨_,rfl,A.m,A.dx,_,rfl,hM.m,rfl,_,rfl,A,bs,us,fs,most,out,r,c,_,rfl,hM,λs H' hs k h=>fin s H' hs k h⟩
inductive spLeaveW (CM C:Addr) (vs:List V) (H:Hp) (Q:VK):Prop
 |mk:∀(A:Ad) (bs us fs:List V) (most:Int) (out:V) (r c:Int) (v:V),(vs=[.ref A.m,v])->(MR CM C H A bs us fs most out r c)->(((∃f,fs=[f]/\∀s p H',H s=none->Kq A H H'->MR CM C H' {A with s:=s} bs us [] most (.ref p) r c->H' p=some (.tup [.str "value",v])->Q .non H')\/(∃fs0 g f gk gat gsl gst,fs=fs0++ [.ref g]++ [f]/\FrAt H g gk gat gsl gst/\gst.length<=500/\∀g' H',Kq A H H'->MR CM C H' A bs us (fs0++ [.ref g']) most out r c->FrAt H' g' gk gat gsl (gst++ [v])->Q .non H')))->spLeaveW CM C vs H Q
noncomputable def RW(CM C:Addr):Sp:=λvs H Q _=>spLeaveW CM C vs H Q
theorem ok_leave(F:Fun K "leave" "Machine.leave" s_leave (gf "leave") (gd "leave"))(B:NoG mg)(RM:MCls K CM gf gd)
  (HI:FnOk P w K mg base CX0 1 (gf "end") (gd "end") VY (ST CM C)):FnOk P w K mg base CX0 2 (gf "leave") (gd "leave") GZ (RW CM C):=by
 refine F.ok sc_leave (λvs H Q E h=> ?_) (λcdv A outer s H vs Q E hr h=> ?_)
 ·obtain⟨A,bs,us,fs,most,out,r,c,v,rfl,_⟩:=h
  rfl
 obtain⟨A,bs,us,fs,most,out,r,c,v,rfl,hM,h⟩:=h
 have nd:=sc_leave.nd
 have hu:=hr.units0
 have zz:(1000:Nat)<=sizeLine:=by decide
 refine⟨_,(A6 (C8 (B2 (kEq (K:=K) hu) (B9 (J9 (K:=K)) rfl B.len_ E8 (A0 (G3 (pv 0) rfl) A4)) A5 rfl) (A6 (C0 (O1 (pv 0) RM.cl RM.m_end HI (hr.mono (by omega)) RM.b_end .nil B8 (A0 (B7 (A0 A8 (A0 (pv 1) A4))) A4)))
   (A7 W2)) C1)
   (A6 (C0 (IF (K:=K) PySem.F.plainAttrs_list PySem.F.slot_list_pop PySem.F.type_list_pop FC (G3 (pv 0) rfl)))
   (A6 (C5 (i:=2) nd rfl (Or.inl rfl) (ixE K w (G3 (pv 0) rfl) (J0 E4 A5)))
   (A7 (P8 (B4 (M2 (K:=K)) (G5 (W7 (K:=K)) (pv 2) K4 (J3 A5)) (B7 (A0 (B4 (M2 (K:=K)) (ixE K w (pv 2) A5) (B7 (A0 (pv 1) A4))) A4))) (W3 (G3 (pv 0) rfl) (J0 E4 A5) S8)))))), ?_⟩
 refine⟨_,rfl,A.m,CM,A.dx,_,_,rfl,hM.m,RM.cl,RM.n4,l4,_,_,rfl,.inl ⟨_,SqL.of hM.s,rfl⟩,.inl ⟨rfl,_,rfl, ?_⟩⟩
 rcases h with⟨f,rfl,fin⟩|⟨fs0,g,f,gk,gat,gsl,gst,rfl,hg,hgz,fin⟩
 ·refine ifT (by simp) ?_
  refine⟨_,rfl,A.m,A.dx,_,rfl,hM.m,rfl,_,rfl,(by show 2<=sizeLine;omega),λp hp=> ?_⟩
  have t:=A3 hp (.tup [.str "value",v])
  refine⟨A,bs,us,_,most,out,r,c,_,rfl,hM.same t,λs H' hs k h=>fin s p H' (t.free hs) ((Kq.of t).trans k) h (k _ _ A2 ((hM.same t).ntup A2))⟩
 ·refine ifF (λz=>by have:=V.int.inj (of_decide_eq_true z);rw[length_append,length_append]at this;simp at this;omega) ?_
  have hdl:(fs0++ [V.ref g]++ [f]).dropLast=fs0++ [V.ref g]:=List.dropLast_concat ..
  refine⟨_,rfl,A.m,CM,A.dx,_,_,rfl,hM.m,RM.cl,RM.n4,l4,.inl ⟨rfl,_,SqL.of hM.s⟩,A.s,_,f,rfl,rfl,hM.s,by simp, ?_⟩
  rw[hdl]
  have h1:=hM.setS (gs:=fs0++ [.ref g])
  have k1:Kq A H (upd H A.s (.lst (fs0++ [.ref g]))):=Kq.updO _ (HQ A)
  obtain⟨q0,e0,g1,g2,g3⟩:=hg
  have mo:=hM.mo k1
  replace g1:=mo _ _ g1
  replace g2:=mo _ _ g2
  replace g3:=mo _ _ g3
  show M0 _ _ _ [some (.ref A.m),some v,none] (upd H A.s (.lst (fs0++ [.ref g])))
  generalize upd H A.s (.lst (fs0++ [.ref g]))=H1 at h1 k1 g1 g2 g3⊢
  refine⟨_,rfl,A.m,CM,A.dx,_,_,rfl,h1.m,RM.cl,RM.n4,l4,_,rfl,(ixL (v:=.ref g) h1.s (G0 _ _) ?_)⟩
  have ec:G9 [.int gk,.int gat,.ref q0,.ref e0] none (some 3)=[.int gk,.int gat,.ref q0]:=PK _ 3
  refine⟨_,rfl,_,rfl,T0 g1 λra H2 s2 hra=> ?_⟩
  rw[ec]at hra
  refine⟨_,rfl,(ixT (s2 _ _ g1) rfl ⟨_,rfl,(by show 1<=sizeLine;omega),λpv hpv=> ?_⟩)⟩
  have s3:=A3 hpv (.tup [v])
  refine .inr (.inr (Q1 (s3 _ _ (s2 _ _ g3)) A2 (by simp;omega) λrb H3 s4 hrb=>⟨(by show 1<=sizeLine;omega),λpw hpw=> ?_⟩))
  have s5:=A3 hpw (.tup [.ref rb])
  have s25:=s2.trans (s3.trans (s4.trans s5))
  have hra5:=(s3.trans (s4.trans s5)) _ _ hra
  refine .inr (.inr (Q1 hra5 A2 (by simp) λrc H4 s6 hrc=> ?_))
  have s26:=s25.trans s6
  have h4:=h1.same s26
  refine⟨_,rfl,A.m,CM,A.dx,_,_,rfl,h4.m,RM.cl,RM.n4,l4,_,rfl,A.s,_,_,fs0.length,rfl,rfl,h4.s,JZ _ _, ?_⟩
  rw[EZ]
  have k5:Kq A H (upd H4 A.s (.lst (fs0++ [.ref rc]))):=k1.trans ((Kq.of s26).trans (Kq.updO _ (HQ A)))
  have mo5:=h4.mo (Kq.updO (.lst (fs0++ [.ref rc])) (HQ A))
  exact fin rc _ k5 h4.setS ⟨q0,rb,mo5 _ _ hrc,mo5 _ _ (s26 _ _ g2),mo5 _ _ ((s5.trans s6) _ _ hrb)⟩
noncomputable def Cl2(H:Hp)(bs us:List V)(rw:Addr)(st bel:List V)(wh:Nat)(ys:List V)(sz:Nat):Prop:=
 (∃m:Nat,H rw=some (.tup [.str "call",.int (wh:Nat),.int (m:Nat)])/\m<=st.length/\BkAt H bs wh sz/\m<=sz/\sz<=500/\bel=st.take (st.length - m)/\ys=st.drop (st.length - m))\/
 (∃(cv:Addr) (x:V) (j:Nat) (fc vt:Addr) (xs:List V),H rw=some (.tup [.str "apply"])/\st=bel++ [.ref cv,x]/\H cv=some (.tup [.str "cell",.int (j:Nat)])/\us[j]? =some (.ref fc)/\H fc=some (.tup [.str "fn",.int (wh:Nat),.ref vt])/\H vt=some (.tup xs)/\BkAt H bs wh sz/\xs.length+1<=sz/\sz<=500/\ys=xs++ [x])
theorem Cl2.mo{H H':Hp}(m:Mo H H'){bs us:List V}{rw:Addr}{st bel:List V}{wh:Nat}{ys:List V}{sz:Nat}(h:Cl2 H bs us rw st bel wh ys sz):Cl2 H' bs us rw st bel wh ys sz:=by
 rcases h with⟨k,h1,h2,h3,h4⟩|⟨cv,x,j,fc,vt,xs,h1,h2,h3,h4,h5,h6,h7,h8⟩
 ·exact .inl ⟨k,m _ _ h1,h2,h3.mono m,h4⟩
 ·exact .inr ⟨cv,x,j,fc,vt,xs,m _ _ h1,h2,m _ _ h3,h4,m _ _ h5,m _ _ h6,h7.mono m,h8⟩
inductive spEnterW (CM C:Addr) (vs:List V) (H:Hp) (Q:VK):Prop
 |mk:∀(A:Ad) (bs us fs0:List V) (most:Int) (out:V) (r c:Int) (fr rw:Addr),(vs=[.ref A.m,.ref fr,.ref rw])->(MR CM C H A bs us (fs0++ [.ref fr]) most out r c)->(fs0.length<=60)->(((most<=c/\∀s p H',H s=none->Kq A H H'->MR CM C H' {A with s:=s} bs us [] most (.ref p) r c->H' p=some (.tup [.str "dry"])->Q .non H')\/(c<most/\60<=fs0.length+1/\∀s p H',H s=none->Kq A H H'->MR CM C H' {A with s:=s} bs us [] most (.ref p) r (c+1)->H' p=some (.tup [.str "deep"])->Q .non H')\/(c<most/\fs0.length+1<60/\∃k at_ sl st bel wh ys sz,FrAt H fr k at_ sl st/\st.length<=500/\Cl2 H bs us rw st bel wh ys sz/\∀p1 p2 H',Kq A H H'->MR CM C H' A bs us (fs0++ [.ref p1]++ [.ref p2]) most out r (c+1)->FrAt H' p1 k (at_+1) sl bel->FrAt H' p2 wh 0 (ys++List.replicate (sz - ys.length) .non) []->Q .non H')))->spEnterW CM C vs H Q
noncomputable def RU(CM C:Addr):Sp:=λvs H Q _=>spEnterW CM C vs H Q
theorem ok_enter(F:Fun K "enter" "Machine.enter" s_enter (gf "enter") (gd "enter"))(B:NoG mg)(RM:MCls K CM gf gd)(m_DEEPEST:∃t,mg "DEEPEST"=some (.int 60 t))
  (HI:FnOk P w K mg base CX0 1 (gf "end") (gd "end") VY (ST CM C))
  (R6:Cn P w K mg base CX0 2 "called" aHZ (spCal C)):
  FnOk P w K mg base CX0 3 (gf "enter") (gd "enter") aYZ (RU CM C):=by
 obtain⟨EM,EJ,R6,EK,EL,EG⟩:=R6
 obtain⟨tk,m_DEEPEST⟩:=m_DEEPEST
 refine F.ok sc_enter (λvs H Q E h=> ?_) (λcdv A outer s H vs Q E hr h=> ?_)
 ·obtain⟨A,bs,us,fs0,most,out,r,c,fr,rw,rfl,_⟩:=h
  rfl
 obtain⟨A,bs,us,fs0,most,out,r,c,fr,rw,rfl,hM,hfz,h⟩:=h
 have nd:=sc_enter.nd
 have hu:=hr.units0
 have zz:(1000:Nat)<=sizeLine:=by decide
 refine⟨_,(A6 (C8 (B2 bbZ (G3 (pv 0) rfl) (G3 (pv 0) rfl) rfl) (A6 (C0 (O1 (pv 0) RM.cl RM.m_end HI (hr.mono (by omega)) RM.b_end .nil B8 (A0 (B7 (A0 A8 A4)) A4)))
   (A7 W2)) C1)
   (A6 (IC (pv 0) A5 YQ)
   (A6 (C8 (B2 bbZ (B9 (J9 (K:=K)) rfl B.len_ E8 (A0 (G3 (pv 0) rfl) A4)) (BK (v:=.int 60) rfl m_DEEPEST ⟨_,rfl⟩) rfl) (A6 (C0 (O1 (pv 0) RM.cl RM.m_end HI (hr.mono (by omega)) RM.b_end .nil B8 (A0 (B7 (A0 A8 A4)) A4)))
   (A7 W2)) C1)
   (A6 (C5 (i:=3) nd rfl (Or.inl rfl) (B1 R6 (hr.mono (by omega)) rfl EG EL EK .nil B8 (A0 (G3 (pv 0) rfl) (A0 (G3 (pv 0) rfl) (A0 (pv 1) (A0 (pv 2) A4))))))
   (A6 (P8 (ixE K w (pv 3) A5) (W3 (G3 (pv 0) rfl) (J0 E4 A5) S8))
   (A7 (C0 (M9 (K:=K) PySem.F.plainAttrs_list PySem.F.slot_list_append PySem.F.type_list_append C3 (G3 (pv 0) rfl) (A0 (ixE K w (pv 3) A5) A4))))))))), ?_⟩
 refine⟨_,rfl,A.m,CM,A.dx,_,_,rfl,hM.m,RM.cl,RM.n7,l7,_,rfl,A.m,CM,A.dx,_,_,rfl,hM.m,RM.cl,RM.n2,l2,_,_,rfl,rfl,_,rfl, ?_⟩
 rcases h with⟨hmc,fin⟩|h
 ·refine ifT (decide_eq_true hmc) ?_
  refine⟨_,rfl,A.m,A.dx,_,rfl,hM.m,rfl,(by show 1<=sizeLine;omega),λp hp=> ?_⟩
  have t:=A3 hp (.tup [.str "dry"])
  exact⟨A,bs,us,_,most,out,r,c,_,rfl,hM.same t,λs H' hs k h=>fin s p H' (t.free hs) ((Kq.of t).trans k) h (k _ _ A2 ((hM.same t).ntup A2))⟩
 have hlt:c<most:=by rcases h with⟨h,_⟩|⟨h,_⟩<;>exact h
 refine ifF (by rw[decide_eq_true_eq];show¬(most<=c);omega) ?_
 refine⟨_,rfl,A.m,CM,A.dx,_,_,rfl,hM.m,RM.cl,RM.n7,l7,_,_,rfl,rfl,A.dx,_,hM.m,lf, ?_⟩
 rw[p7]
 have h1:=hM.putM r (c+1) out
 have k1:Kq A H (upd H A.m (.ins CM A.dx (N3 A most out r (c+1)))):=Kq.updO _ (RY A)
 have mo1:=hM.mo k1
 have fr1:∀ {x:Addr},upd H A.m (.ins CM A.dx (N3 A most out r (c+1))) x=none->H x=none:=λ{x} e=>by
  by_cases z:x=A.m
  ·rw[z,A2]at e;cases e
  ·rw[B0 z]at e;exact e
 show M0 _ _ _ [some (.ref A.m),some (.ref fr),some (.ref rw),none] (upd H A.m (.ins CM A.dx (N3 A most out r (c+1))))
 generalize upd H A.m (.ins CM A.dx (N3 A most out r (c+1)))=H1 at h1 k1 mo1 fr1⊢
 refine⟨_,rfl,A.m,CM,A.dx,_,_,rfl,h1.m,RM.cl,RM.n4,l4,_,_,rfl,.inl ⟨_,SqL.of h1.s,rfl⟩,_,_,rfl,rfl,_,rfl, ?_⟩
 rcases h with⟨_,h60,fin⟩|⟨_,h60,k,at_,sl,st,bel,wh,ys,sz,hF,hst,hC,fin⟩
 ·refine ifT (decide_eq_true (by simp only[length_append,length_singleton];omega)) ?_
  refine⟨_,rfl,A.m,A.dx,_,rfl,h1.m,rfl,(by show 1<=sizeLine;omega),λp hp=> ?_⟩
  have t:=A3 hp (.tup [.str "deep"])
  exact⟨A,bs,us,_,most,out,r,c+1,_,rfl,h1.same t,λs H' hs k h=>fin s p H' (fr1 (t.free hs)) (k1.trans ((Kq.of t).trans k)) h (k _ _ A2 ((h1.same t).ntup A2))⟩
 refine ifF (by rw[decide_eq_true_eq];simp only[length_append,length_singleton];omega) ?_
 have hF1:=hF
 obtain⟨q0,e0,g1,g2,g3⟩:=hF
 have hFr:FrAt H1 fr k at_ sl st:=⟨q0,e0,mo1 _ _ g1,mo1 _ _ g2,mo1 _ _ g3⟩
 have hC1:=hC.mo mo1
 refine⟨_,rfl,A.m,CM,A.dx,_,_,rfl,h1.m,RM.cl,RM.n1,l1,_,rfl,A.m,CM,A.dx,_,_,rfl,h1.m,RM.cl,RM.n3,l3,_,rfl,_,rfl, ?_⟩
 refine⟨A.bl,bs,A.o,A.L,us,fr,k,at_,sl,st,rw,rfl,h1.bl,h1.o,hFr,hst, ?_⟩
 suffices yes:Two H1 _ k at_ sl bel wh ys sz from by
  rcases hC1 with⟨m,a1,a2,a3,a4,a5,e1,e2⟩|⟨cv,x,j,fc,vt,xs,b1,b2,b3,b4,b5,b6,b7,b8,b9,e2⟩
  ·subst e1 e2
   exact .inl ⟨wh,m,sz,a1,a2,a3,a4,a5,yes⟩
  ·subst e2
   exact .inr ⟨wh,sz,bel,cv,x,j,fc,vt,xs,b1,b2,b3,b4,b5,b6,b7,b8,b9,yes⟩
 intro p p1 p2 H2 s2 hp hf1 hf2
 have h2:=h1.same s2
 refine⟨_,rfl,(ixT hp rfl ?_)⟩
 refine⟨_,rfl,A.m,CM,A.dx,_,_,rfl,h2.m,RM.cl,RM.n4,l4,_,rfl,A.s,_,_,fs0.length,rfl,rfl,h2.s,JZ _ _, ?_⟩
 rw[EZ]
 have h3:=h2.setS (gs:=fs0++ [.ref p1])
 have k3:Kq A H2 (upd H2 A.s (.lst (fs0++ [.ref p1]))):=Kq.updO _ (HQ A)
 have mo3:=h2.mo k3
 show M0 _ _ _ [some (.ref A.m),some (.ref fr),some (.ref rw),some (.ref p)] (upd H2 A.s (.lst (fs0++ [.ref p1])))
 generalize upd H2 A.s (.lst (fs0++ [.ref p1]))=H3 at h3 k3 mo3⊢
 refine⟨_,rfl,A.m,CM,A.dx,_,_,rfl,h3.m,RM.cl,RM.n4,l4,.inl ⟨rfl,_,SqL.of h3.s⟩,_,rfl,(ixT (mo3 _ _ hp) rfl ⟨A.s,_,_,rfl,rfl,h3.s,by simp;omega, ?_⟩)⟩
 have k4:Kq A H3 (upd H3 A.s (.lst (fs0++ [.ref p1]++ [.ref p2]))):=Kq.updO _ (HQ A)
 have mo4:=h3.mo k4
 obtain⟨a1,a2,a3,a4,a5⟩:=hf1
 obtain⟨b1,b2,b3,b4,b5⟩:=hf2
 exact fin p1 p2 _ (k1.trans ((Kq.of s2).trans (k3.trans k4))) h3.setS ⟨a1,a2,mo4 _ _ (mo3 _ _ a3),mo4 _ _ (mo3 _ _ a4),mo4 _ _ (mo3 _ _ a5)⟩ ⟨b1,b2,mo4 _ _ (mo3 _ _ b3),mo4 _ _ (mo3 _ _ b4),mo4 _ _ (mo3 _ _ b5)⟩
end
noncomputable abbrev s_step:Stmt:=J2 (top 31) 1
noncomputable abbrev bBZ:List Str:=["self","frame","row"]
theorem sc_step:FnScope bBZ J1 (A9 s_step):=fS
noncomputable def L8:List Str:=["push","none","load","keep","add","sub","mul","div","less","same","cons","head","tail","empty","not","skip","unless","close"]
theorem XQ:∀w∈L8,w≠ "back"/\inV (.str w) [.str "call",.str "apply"]=false:=by decide +kernel
theorem bJZ(k:Nat):wd k∈L8:=by
 match k with
 |0=>decide +kernel
 |1=>decide +kernel
 |2=>decide +kernel
 |3=>decide +kernel
 |4=>decide +kernel
 |n+5=>show("div":Str)∈L8;decide +kernel
theorem abZ(rk:Rk):T9 rk∈L8:=by
 cases rk with
 |push _=>exact(by decide +kernel:("push":Str)∈L8)
 |non=>exact(by decide +kernel:("none":Str)∈L8)
 |load _=>exact(by decide +kernel:("load":Str)∈L8)
 |keep _=>exact(by decide +kernel:("keep":Str)∈L8)
 |two k=>exact bJZ k
 |cons=>exact(by decide +kernel:("cons":Str)∈L8)
 |head=>exact(by decide +kernel:("head":Str)∈L8)
 |tail=>exact(by decide +kernel:("tail":Str)∈L8)
 |empty=>exact(by decide +kernel:("empty":Str)∈L8)
 |not=>exact(by decide +kernel:("not":Str)∈L8)
 |skip _=>exact(by decide +kernel:("skip":Str)∈L8)
 |«unless» _=>exact(by decide +kernel:("unless":Str)∈L8)
 |close _ _=>exact(by decide +kernel:("close":Str)∈L8)
theorem FS(rk:Rk):T9 rk≠ "back"/\inV (.str (T9 rk)) [.str "call",.str "apply"]=false:=XQ _ (abZ rk)
theorem S7{H:Hp}:∀n:Nat,All2 (VAt H) (List.replicate n (.sc .non)) (List.replicate n .non)
 |0=> .nil
 |n+1=> .cons ⟨rfl,rfl⟩ (S7 n)
theorem MR.bt{CM C:Addr}{H H':Hp}{A:Ad}{bs us us' fs:List V}{most r c:Int}{out:V}(h:MR CM C H A bs us fs most out r c)(b:Bt A.L H H')(hc:CAt C H' A.o A.L us'):MR CM C H' A bs us' fs most out r c:=by
 obtain⟨dx,ho,hL⟩:=h.o
 exact⟨b _ _ h.m (λe=>by have:=h.m;rw[e,hL]at this;cases this),b _ _ h.bl h.nbL,hc,b _ _ h.s (Ne.symm h.nLs),h.nLs,h.nbs,h.nbL⟩
theorem Kq.bt{A:Ad}{H H':Hp}(b:Bt A.L H H'):Kq A H H':=λx o e n=>b x o e λz=>n (by rw[z];exact cHZ A)
theorem FrAt.mo'{H H':Hp}(m:Mo H H'){p:Addr}{k a:Int}{sl st:List V}(h:FrAt H p k a sl st):FrAt H' p k a sl st:=by
 obtain⟨q,e,h1,h2,h3⟩:=h
 exact⟨q,e,m _ _ h1,m _ _ h2,m _ _ h3⟩
section
variable{P:Program}{w:World}{K:FZ}{mg:Str->Option Value}{base:Heap}{CM C:Addr}{gf mf:Str->Addr}{gd md:Str->FuncData}{AB:Addr}{AO:FuncData}
inductive spStepW(CM C:Addr)(vs:List V)(H:Hp)(Q:VK):Prop
 |mk:∀(A:Ad) (bs:List Bk) (most:Nat) (S:Ms),(vs=[.ref A.m])->(MAt CM C H A bs most S)->(Small S)->(((S.frs=[]/\Q (.bl false) H)\/∃S',axZ bs most S S'/\∀A' H',New A A' H->Kq A H H'->MAt CM C H' A' bs most S'->Q (.bl true) H'))->spStepW CM C vs H Q
noncomputable def RO(CM C:Addr):Sp:=λvs H Q _=>spStepW CM C vs H Q
theorem ok_step(F:Fun K "step" "Machine.step" s_step (gf "step") (gd "step"))(RM:MCls K CM gf gd)
  (ZP:FnOk P w K mg base CX0 2 (gf "leave") (gd "leave") GZ (RW CM C))
  (ZO:FnOk P w K mg base CX0 3 (gf "enter") (gd "enter") aYZ (RU CM C))
  (ZQ:FnOk P w K mg base CX0 2 (gf "go_on") (gd "go_on") aVZ (YE CM C))
  (O4:Cn P w K mg base CX0 4 "own_done" QN (XY C)):
  FnOk P w K mg base CX0 5 (gf "step") (gd "step") J1 (RO CM C):=by
 obtain⟨AB,AO,O4,AR,AD,AJ⟩:=O4
 refine F.ok sc_step (λvs H Q E h=> ?_) (λcdv A outer s H vs Q E hr h=> ?_)
 ·obtain⟨A,bs,most,S,rfl,_⟩:=h
  rfl
 obtain⟨A,bs,most,S,rfl,hA,hS,h⟩:=h
 obtain⟨vb,us,vf,out,hM,hB,hC,hF,hO⟩:=hA.ex
 have nd:=sc_step.nd
 have hu:=hr.units0
 have zz:(1000:Nat)<=sizeLine:=by decide
 refine⟨_,(A6 (C8 (KI (N1 (K:=K) (G3 (pv 0) rfl) (λ_=>rfl))) (A7 (B5 W5)) C1)
   (A6 (IC (pv 0) A5 YQ)
   (A6 (C5 (i:=1) nd rfl (Or.inl rfl) (ixE K w (G3 (pv 0) rfl) (J0 E4 A5)))
   (A6 (C5 (i:=2) nd rfl (Or.inl rfl) (ixE K w (ixE K w (ixE K w (G3 (pv 0) rfl) (ixE K w (pv 1) A5)) A5) (ixE K w (pv 1) A5)))
   (A6 (D8 (C8 (B2 (kEq (K:=K) hu) (ixE K w (pv 2) A5) A8 rfl) (A7 (C0 (O1 (pv 0) RM.cl RM.m_leave ZP (hr.mono (by omega)) RM.b_leave .nil B8 (A0 (ixE K w (ixE K w (pv 1) A5) (J0 E4 A5)) A4)))) (A7 (D8 (C8 (B2 (kIn (K:=K) (w:=w)) (ixE K w (pv 2) A5) (B7 (A0 A8 (A0 A8 A4))) rfl) (A7 (C0 (O1 (pv 0) RM.cl RM.m_enter ZO (hr.mono (by omega)) RM.b_enter .nil B8 (A0 (pv 1) (A0 (pv 2) A4))))) (A7 (C0 (O1 (pv 0) RM.cl RM.m_go_on ZQ (hr.mono (by omega)) RM.b_go_on .nil B8 (A0 (B1 O4 (hr.mono (by omega)) rfl AJ AD AR .nil B8 (A0 (G3 (pv 0) rfl) (A0 (pv 1) (A0 (pv 2) A4)))) A4)))))))))
   (A7 (B5 W5))))))), ?_⟩
 refine⟨_,rfl,A.m,CM,A.dx,_,_,rfl,hM.m,RM.cl,RM.n4,l4,_,.inl ⟨_,SqL.of hM.s,rfl⟩, ?_⟩
 rcases h with⟨he,q⟩|⟨S',⟨cs,fs,f,r,c,row,rfl,hrow,hact⟩,q⟩
 ·rw[he]at hF
  cases hF
  exact ifT rfl q
 simp only at hC hF hO hM
 obtain⟨vf0,vfl,rfl,hF0,p0,sl,st,rfl,⟨q0,e0,g1,g2,g3⟩,hsl,hst⟩:=C4 hF
 refine ifF (by simp) ?_
 obtain rfl:=hO
 refine⟨_,rfl,A.m,CM,A.dx,_,_,rfl,hM.m,RM.cl,RM.n6,l6,_,_,rfl,rfl,A.dx,_,hM.m,lf, ?_⟩
 rw[p6]
 have h1:=hM.putM ((r:Nat)+1) (c:Nat) .non
 have k1:Kq A H (upd H A.m (.ins CM A.dx (N3 A (most:Nat) .non ((r:Nat)+1) (c:Nat)))):=Kq.updO _ (RY A)
 have mo1:=hM.mo k1
 have fr1:∀ {x:Addr},upd H A.m (.ins CM A.dx (N3 A (most:Nat) .non ((r:Nat)+1) (c:Nat))) x=none->H x=none:=λ{x} e=>by
  by_cases z:x=A.m
  ·rw[z,A2]at e;cases e
  ·rw[B0 z]at e;exact e
 show M0 _ _ _ [some (.ref A.m),none,none] (upd H A.m (.ins CM A.dx (N3 A (most:Nat) .non ((r:Nat)+1) (c:Nat))))
 generalize upd H A.m (.ins CM A.dx (N3 A (most:Nat) .non ((r:Nat)+1) (c:Nat)))=H1 at h1 k1 mo1 fr1⊢
 have er:((r:Nat):Int)+1=((r+1:Nat):Int):=by omega
 have ec:((c:Nat):Int)+1=((c+1:Nat):Int):=by omega
 rw[er]at h1
 replace g1:=mo1 _ _ g1
 replace g2:=mo1 _ _ g2
 replace g3:=mo1 _ _ g3
 replace hB:=hB.imp λ_ _ z=>BAt.mo mo1 z
 replace hC:=hC.imp λ_ _ z=>ClAt.mo mo1 z
 replace hF0:=hF0.imp λ_ _ z=>FAt.mo mo1 z
 replace hsl:=hsl.imp λ_ _ z=>VAt.mo mo1 z
 replace hst:=hst.imp λ_ _ z=>VAt.mo mo1 z
 have hFr:FrAt H1 p0 (f.k:Nat) (f.at_:Nat) sl st:=⟨q0,e0,g1,g2,g3⟩
 refine⟨_,rfl,A.m,CM,A.dx,_,_,rfl,h1.m,RM.cl,RM.n4,l4,_,rfl,(ixL (v:=.ref p0) h1.s (G0 _ _) ?_)⟩
 obtain⟨bk,hbk,hrw⟩:∃bk,bs[f.k]? =some bk/\bk.rows[f.at_]? =some row:=by
  unfold DB at hrow
  obtain⟨bk,h1,h2⟩:=Option.bind_eq_some_iff.mp hrow
  exact⟨bk,h1,h2⟩
 obtain⟨u,hu1,tb,rs,ur,rfl,hb1,hb2,hb3,hb4⟩:=E3 hB hbk
 obtain⟨v,hv,rwa,rfl,hrwa⟩:=E3 hb3 hrw
 refine⟨_,rfl,A.m,CM,A.dx,_,_,rfl,h1.m,RM.cl,RM.n1,l1,_,rfl,(ixT g1 rfl (ixL (v:=.ref tb) h1.bl (C9 hu1) (ixT hb1 rfl ⟨_,rfl,(ixT g1 rfl (ixT (v:=.ref rwa) hb2 (C9 hv) ?_))⟩)))⟩
 refine⟨λ_ H'=>Q (.bl true) H', ?_,λ_ _ h=>h⟩
 have small:=hS.fr f (by simp)
 have scs:=hS.cs
 have lsl:=hsl.len
 have lst:=hst.len
 have lcs:=hC.len
 have lfs:=hF0.len
 have sfr:=hS.frs
 simp only[length_append,length_singleton]at sfr scs
 have fin:∀ {A':Ad} {H':Hp} {us' fs':List V} {out':V} {S1:Ms},A'.m=A.m->(∀x∈A'.own,x∈A.own\/H1 x=none)->Kq A H1 H'->MR CM C H' A' vb us' fs' (most:Nat) out' (S1.r:Nat) (S1.c:Nat)->All2 (ClAt H') S1.cs us'->All2 (FAt H') S1.frs fs'->OAt H' S1.out out'->(∀A' H',New A A' H->Kq A H H'->MAt CM C H' A' bs most S1->Q (.bl true) H')->Q (.bl true) H':=λ{A' H' us' fs' out' S1} e1 e2 k2 h2 h3 h4 h5 q=>
  q A' H' ⟨e1,λx hx=>(e2 x hx).imp id fr1⟩ (k1.trans k2) ⟨vb,us',fs',out',h2,hB.imp λ_ _ z=>BAt.mo (h1.mo k2) z,h3,h4,h5⟩
 have ownS:∀(s:Addr),H1 s=none->∀x∈({A with s:=s}:Ad).own,x∈A.own\/H1 x=none:=λs hs x hx=>by
  simp only[Ad.own,mem_cons,not_mem_nil,or_false]at hx⊢
  rcases hx with z|z|z|z|z
  ·exact .inl (.inl z)
  ·exact .inl (.inr (.inl z))
  ·exact .inl (.inr (.inr (.inl z)))
  ·exact .inl (.inr (.inr (.inr (.inl z))))
  ·exact .inr (by rw[z];exact hs)
 cases row with
 |own rk=>
  obtain⟨hw1,hw2⟩:=FS rk
  have hE:∃eo,Er cs f.sl rk f.st eo/\(match eo with
   | .fr d sl st=>S'=⟨cs,fs++ [⟨f.k,f.at_+d,sl,st⟩],none,r+1,c⟩
   | .new cl st=>S'=⟨cs++ [cl],fs++ [⟨f.k,f.at_+1,f.sl,st++ [.cell cs.length]⟩],none,r+1,c⟩
   | .rf w=>S'=⟨cs,[],some (.refused w),r+1,c⟩):=by
   cases hact with
   |own h=>exact⟨_,h,rfl⟩
   |new h=>exact⟨_,h,rfl⟩
   |rf h=>exact⟨_,h,rfl⟩
   |dry h _=>rcases h with⟨_,_,h⟩|h<;>cases h
   |deep h _ _=>rcases h with⟨_,_,h⟩|h<;>cases h
  obtain⟨eo,hEr,hpost⟩:=hE
  refine⟨_,rfl,(ixT (v:=.str (T9 rk)) hrwa (HL rk) (.inl ⟨rfl,_,rfl,ifF (λz=>hw1 (V.str.inj (of_decide_eq_true z))) ?_⟩))⟩
  refine⟨λ_ H'=>Q (.bl true) H', ?_,λ_ _ h=>h⟩
  refine⟨_,rfl,(ixT (v:=.str (T9 rk)) hrwa (HL rk) ⟨(by show 2<=sizeLine;omega),λt1 ht1=> .inr (.inl ⟨t1,_,rfl,.inr (SqT.of A2),rfl,rfl,_,rfl,ifF (λz=>by rw[show(if false=true then !inV (.str (T9 rk)) [.str "call",.str "apply"]else inV (.str (T9 rk)) [.str "call",.str "apply"])=false from hw2]at z;cases z) ?_⟩)⟩)⟩
  have s2:=A3 ht1 (.tup [.str "call",.str "apply"])
  generalize upd H1 t1 (.tup [.str "call",.str "apply"])=H2 at s2⊢
  have mo2:Mo H1 H2:=B6 s2
  have h2:=h1.same s2
  have hC2:=hC.imp λ_ _ z=>ClAt.mo mo2 z
  have hsl2:=hsl.imp λ_ _ z=>VAt.mo mo2 z
  have hst2:=hst.imp λ_ _ z=>VAt.mo mo2 z
  obtain⟨eo',hEf,hR⟩:=XF hC2 hsl2 hEr hst2
  refine⟨_,rfl,A.m,A.dx,_,rfl,h2.m,rfl,_,rfl,A.m,CM,A.dx,_,_,rfl,h2.m,RM.cl,RM.n3,l3,_,rfl,_,rfl, ?_⟩
  refine⟨A.o,A.L,us,p0,_,_,sl,st,rwa,rk,eo',rfl,h2.o,by omega,FrAt.mo' mo2 hFr,by omega,by omega,s2 _ _ hrwa,hEf, ?_⟩
  cases hR with
  | @fr d sl1 st1 sl2 st2 hs' ht'=>
   simp only at hpost
   subst hpost
   intro p q1 H3 s3 hp hq
   have s23:=s2.trans s3
   have h3:=h1.same s23
   refine⟨A,vb,us,_,_,_,_,_,p,rfl,h3,.inl ⟨q1,vf0,.ref p0,hp,rfl,λH4 k4 h4=> ?_⟩⟩
   have mo4:=h3.mo k4
   have mo14:Mo H1 H4:=λb xs e=>mo4 _ _ (s23 _ _ e)
   have mo24:Mo H2 H4:=λb xs e=>mo4 _ _ (s3 _ _ e)
   have e:((f.at_+d:Nat):Int)=(f.at_:Nat)+(d:Nat):=by omega
   refine fin rfl (λx hx=> .inl hx) ((Kq.of s23).trans k4) h4 ?_ ?_ ?_ q
   ·exact hC.imp λ_ _ z=>ClAt.mo mo14 z
   ·exact(hF0.imp λ_ _ z=>FAt.mo mo14 z).app (.cons ⟨q1,sl2,st2,rfl,by rw[e];exact FrAt.mo' mo4 hq,hs'.imp λ_ _ z=>VAt.mo mo24 z,ht'.imp λ_ _ z=>VAt.mo mo24 z⟩ .nil)
   ·rfl
  | @rf w=>
   simp only at hpost
   subst hpost
   intro p H3 s3 hp
   have s23:=s2.trans s3
   have h3:=h1.same s23
   refine⟨A,vb,us,_,_,_,_,_,p,rfl,h3,.inr ⟨w,hp,λs4 H4 hs4 k4 h4=> ?_⟩⟩
   have mo4:=h3.mo k4
   have mo14:Mo H1 H4:=λb xs e=>mo4 _ _ (s23 _ _ e)
   refine fin (A':={A with s:=s4}) rfl (ownS s4 (s23.free hs4)) ((Kq.of s23).trans k4) h4 ?_ ?_ ?_ q
   ·exact hC.imp λ_ _ z=>ClAt.mo mo14 z
   ·exact .nil
   ·exact⟨p,rfl,mo4 _ _ hp⟩
  | @pair x y st1 x' y' st2 hx hy ht'=>
   simp only at hpost
   subst hpost
   intro p q1 cc cv H3 b3 hc3 hcc hcv hp hq
   have h3:=h2.bt b3 hc3
   have k23:Kq A H1 H3:=(Kq.of s2).trans (Kq.bt b3)
   refine⟨A,vb,_,_,_,_,_,_,p,rfl,h3,.inl ⟨q1,vf0,.ref p0,hp,rfl,λH4 k4 h4=> ?_⟩⟩
   have mo4:=h3.mo k4
   have mo14:Mo H1 H4:=h1.mo (k23.trans k4)
   have mo24:Mo H2 H4:=h2.mo ((Kq.bt b3).trans k4)
   have e:((f.at_+1:Nat):Int)=(f.at_:Nat)+1:=by omega
   refine fin rfl (λx hx=> .inl hx) (k23.trans k4) h4 ?_ ?_ ?_ q
   ·exact(hC.imp λ_ _ z=>ClAt.mo mo14 z).app (.cons ⟨cc,x',y',rfl,mo4 _ _ hcc,hx.mo mo24,hy.mo mo24⟩ .nil)
   ·exact(hF0.imp λ_ _ z=>FAt.mo mo14 z).app (.cons ⟨q1,sl,st2++ [.ref cv],rfl,by rw[e];exact FrAt.mo' mo4 hq,hsl.imp λ_ _ z=>VAt.mo mo14 z,(ht'.imp λ_ _ z=>VAt.mo mo24 z).app (.cons ⟨cv,rfl,by rw[lcs];exact mo4 _ _ hcv⟩ .nil)⟩ .nil)
   ·rfl
  | @fn b xs st1 xs' st2 hxs hx10 ht'=>
   simp only at hpost
   subst hpost
   intro p q1 cc cv vt H3 b3 hc3 hcc hvt hcv hp hq
   have h3:=h2.bt b3 hc3
   have k23:Kq A H1 H3:=(Kq.of s2).trans (Kq.bt b3)
   refine⟨A,vb,_,_,_,_,_,_,p,rfl,h3,.inl ⟨q1,vf0,.ref p0,hp,rfl,λH4 k4 h4=> ?_⟩⟩
   have mo4:=h3.mo k4
   have mo14:Mo H1 H4:=h1.mo (k23.trans k4)
   have mo24:Mo H2 H4:=h2.mo ((Kq.bt b3).trans k4)
   have e:((f.at_+1:Nat):Int)=(f.at_:Nat)+1:=by omega
   refine fin rfl (λx hx=> .inl hx) (k23.trans k4) h4 ?_ ?_ ?_ q
   ·exact(hC.imp λ_ _ z=>ClAt.mo mo14 z).app (.cons ⟨cc,vt,xs',rfl,mo4 _ _ hcc,mo4 _ _ hvt,hxs.imp λ_ _ z=>VAt.mo mo24 z,hx10⟩ .nil)
   ·exact(hF0.imp λ_ _ z=>FAt.mo mo14 z).app (.cons ⟨q1,sl,st2++ [.ref cv],rfl,by rw[e];exact FrAt.mo' mo4 hq,hsl.imp λ_ _ z=>VAt.mo mo14 z,(ht'.imp λ_ _ z=>VAt.mo mo24 z).app (.cons ⟨cv,rfl,by rw[lcs];exact mo4 _ _ hcv⟩ .nil)⟩ .nil)
   ·rfl
 |back=>
  refine⟨_,rfl,(ixT hrwa rfl (.inl ⟨rfl,_,rfl,ifT rfl ?_⟩))⟩
  have hv:∃ds d x st0,st=ds++ [d]/\f.st=st0++ [x]/\VAt H1 x d:=by
   cases hact with
   |last _ h=>rw[h]at hst;obtain⟨ds,d,e,_,h2⟩:=C4 hst;exact⟨ds,d,_,_,e,h,h2⟩
   |back _ h=>rw[h]at hst;obtain⟨ds,d,e,_,h2⟩:=C4 hst;exact⟨ds,d,_,_,e,h,h2⟩
   |dry h _=>rcases h with⟨_,_,h⟩|h<;>cases h
   |deep h _ _=>rcases h with⟨_,_,h⟩|h<;>cases h
  obtain⟨ds,d,x,st0,rfl,hst0,hxd⟩:=hv
  refine⟨_,rfl,A.m,A.dx,_,rfl,h1.m,rfl,_,rfl,(ixT g1 rfl ⟨_,rfl,(ixT (v:=d) g3 (G0 _ _) ?_)⟩)⟩
  refine⟨A,vb,us,_,_,_,_,_,d,rfl,h1, ?_⟩
  cases hact with
  |last hfs h=>
   rw[h]at hst0
   obtain⟨_,hvx⟩:=List.append_inj' hst0 rfl
   cases hvx
   subst hfs
   cases hF0
   refine .inl ⟨.ref p0,rfl,λs4 p H4 hs4 k4 h4 hp4=> ?_⟩
   have mo4:=h1.mo k4
   refine fin (A':={A with s:=s4}) rfl (ownS s4 hs4) k4 h4 ?_ ?_ ?_ q
   ·exact hC.imp λ_ _ z=>ClAt.mo mo4 z
   ·exact .nil
   ·exact⟨p,d,rfl,hp4,hxd.mo mo4⟩
  | @back gs g v st1 hfs h=>
   rw[h]at hst0
   obtain⟨_,hvx⟩:=List.append_inj' hst0 rfl
   cases hvx
   subst hfs
   obtain⟨vg,u,rfl,hG0,pg,gsl,gst,rfl,hFg,hgsl,hgst⟩:=C4 hF0
   have sg:=hS.fr g (by simp)
   have lgst:=hgst.len
   refine .inr ⟨vg,pg,.ref p0,_,_,gsl,gst,rfl,hFg,by omega,λg' H4 k4 h4 hf4=> ?_⟩
   have mo4:=h1.mo k4
   refine fin rfl (λx hx=> .inl hx) k4 h4 ?_ ?_ ?_ q
   ·exact hC.imp λ_ _ z=>ClAt.mo mo4 z
   ·exact(hG0.imp λ_ _ z=>FAt.mo mo4 z).app (.cons ⟨g',gsl,gst++ [d],rfl,hf4,hgsl.imp λ_ _ z=>VAt.mo mo4 z,(hgst.imp λ_ _ z=>VAt.mo mo4 z).app (.cons (hxd.mo mo4) .nil)⟩ .nil)
   ·rfl
  |dry h _=>rcases h with⟨_,_,h⟩|h<;>cases h
  |deep h _ _=>rcases h with⟨_,_,h⟩|h<;>cases h
 |call b m=>
  refine⟨_,rfl,(ixT hrwa rfl (.inl ⟨rfl,_,rfl,ifF (by decide) ?_⟩))⟩
  refine⟨λ_ H'=>Q (.bl true) H', ?_,λ_ _ h=>h⟩
  refine⟨_,rfl,(ixT hrwa rfl ⟨(by show 2<=sizeLine;omega),λt1 ht1=> .inr (.inl ⟨t1,_,rfl,.inr (SqT.of A2),rfl,rfl,_,rfl,ifT (by decide) ?_⟩)⟩)⟩
  have s2:=A3 ht1 (.tup [.str "call",.str "apply"])
  generalize upd H1 t1 (.tup [.str "call",.str "apply"])=H2 at s2⊢
  have mo2:Mo H1 H2:=B6 s2
  have h2:=h1.same s2
  refine⟨_,rfl,A.m,A.dx,_,rfl,h2.m,rfl,_,rfl,_,rfl,A,vb,us,vf0,_,_,_,_,p0,rwa,rfl,h2,by omega, ?_⟩
  cases hact with
  |dry _ hmc=>
   refine .inl ⟨by omega,λs4 p H4 hs4 k4 h4 hp4=> ?_⟩
   have mo4:Mo H1 H4:=h1.mo ((Kq.of s2).trans k4)
   refine fin (A':={A with s:=s4}) rfl (ownS s4 (s2.free hs4)) ((Kq.of s2).trans k4) h4 ?_ ?_ ?_ q
   ·exact hC.imp λ_ _ z=>ClAt.mo mo4 z
   ·exact .nil
   ·exact⟨p,rfl,hp4⟩
  |deep _ hmc h60=>
   refine .inr (.inl ⟨by omega,by omega,λs4 p H4 hs4 k4 h4 hp4=> ?_⟩)
   rw[ec]at h4
   have mo4:Mo H1 H4:=h1.mo ((Kq.of s2).trans k4)
   refine fin (A':={A with s:=s4}) rfl (ownS s4 (s2.free hs4)) ((Kq.of s2).trans k4) h4 ?_ ?_ ?_ q
   ·exact hC.imp λ_ _ z=>ClAt.mo mo4 z
   ·exact .nil
   ·exact⟨p,rfl,hp4⟩
  | @call _ bk st1 xs hmc h60 hfst hbk2 hxz=>
   rw[hfst]at hst
   obtain⟨ds,es,rfl,hds,hes⟩:=E1 hst
   have les:=hes.len
   obtain⟨u2,hu2,tb2,rs2,ur2,rfl,hb21,hb22,hb23,hb24⟩:=E3 hB hbk2
   refine .inr (.inr ⟨by omega,by omega,_,_,sl,ds++es,ds,b,es,bk.sz,FrAt.mo' mo2 hFr,by omega,.inl ⟨xs.length,s2 _ _ hrwa,by rw[length_append];omega,⟨tb2,_,_,hu2,s2 _ _ hb21⟩,hxz,by omega, ?_, ?_⟩,λp1 p2 H4 k4 h4 hf1 hf2=> ?_⟩)
   ·rw[length_append,les,add_sub_cancel,List.take_left]
   ·rw[length_append,les,add_sub_cancel,List.drop_left]
   rw[ec]at h4
   have mo4:Mo H1 H4:=h1.mo ((Kq.of s2).trans k4)
   have e:((f.at_+1:Nat):Int)=(f.at_:Nat)+1:=by omega
   refine fin rfl (λx hx=> .inl hx) ((Kq.of s2).trans k4) h4 ?_ ?_ ?_ q
   ·exact hC.imp λ_ _ z=>ClAt.mo mo4 z
   ·have n1:FAt H4 ⟨f.k,f.at_+1,f.sl,st1⟩ (.ref p1):=⟨p1,sl,ds,rfl,by rw[e];exact hf1,hsl.imp λ_ _ z=>VAt.mo mo4 z,hds.imp λ_ _ z=>VAt.mo mo4 z⟩
    have n2:FAt H4 (begun b bk.sz xs) (.ref p2):=⟨p2,_,[],rfl,hf2,by
     show All2 (VAt H4) (xs++List.replicate (bk.sz - xs.length) (.sc .non)) _
     rw[les]
     exact(hes.imp λ_ _ z=>VAt.mo mo4 z).app (S7 _),.nil⟩
    exact((hF0.imp λ_ _ z=>FAt.mo mo4 z).app (.cons n1 .nil)).app (.cons n2 .nil)
   ·rfl
 |apply=>
  refine⟨_,rfl,(ixT hrwa rfl (.inl ⟨rfl,_,rfl,ifF (by decide) ?_⟩))⟩
  refine⟨λ_ H'=>Q (.bl true) H', ?_,λ_ _ h=>h⟩
  refine⟨_,rfl,(ixT hrwa rfl ⟨(by show 2<=sizeLine;omega),λt1 ht1=> .inr (.inl ⟨t1,_,rfl,.inr (SqT.of A2),rfl,rfl,_,rfl,ifT (by decide) ?_⟩)⟩)⟩
  have s2:=A3 ht1 (.tup [.str "call",.str "apply"])
  generalize upd H1 t1 (.tup [.str "call",.str "apply"])=H2 at s2⊢
  have mo2:Mo H1 H2:=B6 s2
  have h2:=h1.same s2
  refine⟨_,rfl,A.m,A.dx,_,rfl,h2.m,rfl,_,rfl,_,rfl,A,vb,us,vf0,_,_,_,_,p0,rwa,rfl,h2,by omega, ?_⟩
  cases hact with
  |dry _ hmc=>
   refine .inl ⟨by omega,λs4 p H4 hs4 k4 h4 hp4=> ?_⟩
   have mo4:Mo H1 H4:=h1.mo ((Kq.of s2).trans k4)
   refine fin (A':={A with s:=s4}) rfl (ownS s4 (s2.free hs4)) ((Kq.of s2).trans k4) h4 ?_ ?_ ?_ q
   ·exact hC.imp λ_ _ z=>ClAt.mo mo4 z
   ·exact .nil
   ·exact⟨p,rfl,hp4⟩
  |deep _ hmc h60=>
   refine .inr (.inl ⟨by omega,by omega,λs4 p H4 hs4 k4 h4 hp4=> ?_⟩)
   rw[ec]at h4
   have mo4:Mo H1 H4:=h1.mo ((Kq.of s2).trans k4)
   refine fin (A':={A with s:=s4}) rfl (ownS s4 (s2.free hs4)) ((Kq.of s2).trans k4) h4 ?_ ?_ ?_ q
   ·exact hC.imp λ_ _ z=>ClAt.mo mo4 z
   ·exact .nil
   ·exact⟨p,rfl,hp4⟩
  | @apply b bk st1 j xs x hmc h60 hfst hcj hbk2 hxz=>
   rw[hfst]at hst
   obtain⟨ds,es,rfl,hds,hes⟩:=E1 hst
   cases hes with
   |cons a1 t3=>
    cases t3 with
    | @cons _ x' _ _ a2 t4=>
     cases t4
     obtain⟨cv,rfl,hcv⟩:=a1
     obtain⟨u2,hu2,tb2,rs2,ur2,rfl,hb21,hb22,hb23,hb24⟩:=E3 hB hbk2
     obtain⟨u3,hu3,fc,vt,xs',rfl,hfc,hvt,hxs,hx10⟩:=E3 hC hcj
     have lxs:=hxs.len
     refine .inr (.inr ⟨by omega,by omega,_,_,sl,ds++ [.ref cv,x'],ds,b,xs'++ [x'],bk.sz,FrAt.mo' mo2 hFr,by omega,.inr ⟨cv,x',j,fc,vt,xs',s2 _ _ hrwa,rfl,s2 _ _ hcv,hu3,s2 _ _ hfc,s2 _ _ hvt,⟨tb2,_,_,hu2,s2 _ _ hb21⟩,by omega,by omega,rfl⟩,λp1 p2 H4 k4 h4 hf1 hf2=> ?_⟩)
     rw[ec]at h4
     have mo4:Mo H1 H4:=h1.mo ((Kq.of s2).trans k4)
     have e:((f.at_+1:Nat):Int)=(f.at_:Nat)+1:=by omega
     refine fin rfl (λx hx=> .inl hx) ((Kq.of s2).trans k4) h4 ?_ ?_ ?_ q
     ·exact hC.imp λ_ _ z=>ClAt.mo mo4 z
     ·have n1:FAt H4 ⟨f.k,f.at_+1,f.sl,st1⟩ (.ref p1):=⟨p1,sl,ds,rfl,by rw[e];exact hf1,hsl.imp λ_ _ z=>VAt.mo mo4 z,hds.imp λ_ _ z=>VAt.mo mo4 z⟩
      have n2:FAt H4 (begun b bk.sz (xs++ [x])) (.ref p2):=⟨p2,_,[],rfl,hf2,by
       show All2 (VAt H4) ((xs++ [x])++List.replicate (bk.sz - (xs++ [x]).length) (.sc .non)) _
       rw[length_append,length_append,lxs]
       exact((hxs.imp λ_ _ z=>VAt.mo mo4 z).app (.cons (a2.mo mo4) .nil)).app (S7 _),.nil⟩
      exact((hF0.imp λ_ _ z=>FAt.mo mo4 z).app (.cons n1 .nil)).app (.cons n2 .nil)
     ·rfl
end
noncomputable abbrev s_answer:Stmt:=J2 (top 31) 10
noncomputable abbrev s_minit:Stmt:=J2 (top 31) 0
noncomputable abbrev XW:List Str:=["self"]
theorem sc_answer:FnScope XW J1 (A9 s_answer):=fS
noncomputable abbrev agZ:List Str:=["self","blocks","main","numbers","most"]
theorem sc_minit:FnScope agZ aUZ (A9 s_minit):=fS
noncomputable def VRa(cs:List Cl):PL.Pv->Vl->Prop
 | .int i,x=>x=.sc (.int i)
 | .bl b,x=>x=.sc (.bl b)
 | .nil,x=>x=.sc .non
 | .cons h t,x=>∃(k:Nat) (a b:Vl),x=.cell k/\cs[k]? =some (.pair a b)/\VRa cs h a/\VRa cs t b
theorem VRa.vr{H:Hp}{cs:List Cl}{us:List V}(hC:All2 (ClAt H) cs us):∀ {t:PL.Pv} {x:Vl} {v:V},VRa cs t x->VAt H x v->PL.VR H us t v
 | .int _,_,_,e,h=>by subst e;exact h.1
 | .bl _,_,_,e,h=>by subst e;exact h.1
 | .nil,_,_,e,h=>by subst e;exact h.1
 | .cons _ _,_,_,⟨k,a,b,e,hk,h1,h2⟩,h=>by
  subst e
  obtain⟨p,rfl,hp⟩:=h
  obtain⟨u,hu,c,y,z,rfl,hc,hy,hz⟩:=E3 hC hk
  exact⟨p,k,c,y,z,rfl,hp,hu,hc,VRa.vr hC h1 hy,VRa.vr hC h2 hz⟩
section
variable{P:Program}{w:World}{K:FZ}{mg:Str->Option Value}{base:Heap}{CM C Pt:Addr}{gf mf:Str->Addr}{gd md:Str->FuncData}{fi f_swept II Y6 fim:Addr}{di d_swept IL Y5 dim:FuncData}
inductive spAnswerW(CM C Pt:Addr)(vs:List V)(H:Hp)(Q:VK):Prop
 |mk:∀(A:Ad) (bs:List Bk) (most:Nat) (S:Ms),(vs=[.ref A.m])->(MAt CM C H A bs most S)->(((∃x t,S.out=some (.value x)/\VRa S.cs t x/\PL.size t<=400000/\X9 H Pt PL.lamAt PL.lamQ/\∀p r H1 H',(∀b ob,H b=some ob->b≠Pt->H1 b=some ob)->X9 H1 Pt PL.lamAt PL.lamQ->(PL.R (λa=>H a=none) H1 t).1 r->H1 p=none->H'=upd H1 p (.tup [.str "value",r])->Q (.ref p) H')\/(XV S.out=false/\∀u,OAt H S.out u->Q u H)))->spAnswerW CM C Pt vs H Q
noncomputable def Y4(CM C Pt:Addr):Sp:=λvs H Q _=>spAnswerW CM C Pt vs H Q
theorem ok_answer(F:Fun K "answer" "Machine.answer" s_answer (gf "answer") (gd "answer"))(RM:MCls K CM gf gd)
  (LC:FnOk P w K mg base CX0 1 (gf "has_value") (gd "has_value") J1 (WM CM))
  (Q0:Cn P w K mg base CX0 5 "plain" KJ (PL.spPlain C Pt)):
  FnOk P w K mg base CX0 6 (gf "answer") (gd "answer") J1 (Y4 CM C Pt):=by
 obtain⟨II,IL,Q0,IP,JF,IW⟩:=Q0
 refine F.ok sc_answer (λvs H Q E h=> ?_) (λcdv A outer s H vs Q E hr h=> ?_)
 ·obtain⟨A,bs,most,S,rfl,_⟩:=h
  rfl
 obtain⟨A,bs,most,S,rfl,hA,h⟩:=h
 obtain⟨vb,us,vf,out,hM,hB,hC,hF,hO⟩:=hA.ex
 have nd:=sc_answer.nd
 have hu:=hr.units0
 refine⟨_,(A6 (C8 (N1 (K:=K) (G1 (pv 0) RM.cl RM.m_has_value LC (hr.mono (by omega)) RM.b_has_value .nil B8) (λ_=>rfl)) (A7 (B5 (B7 (A0 A8 (A0 (B1 Q0 (hr.mono (by omega)) rfl IW JF IP .nil B8 (A0 (G3 (pv 0) rfl) (A0 (ixE K w (G3 (pv 0) rfl) A5) A4))) A4))))) C1)
   (A7 (B5 (G3 (pv 0) rfl)))), ?_⟩
 refine⟨_,rfl,A.m,A.dx,_,rfl,hM.m,rfl,A,_,out,_,_,XV S.out,rfl,hM.m,hO.ov,_,rfl, ?_⟩
 rcases h with⟨x,t,ho,hx,hsz,hT,fin⟩|⟨hv,fin⟩
 ·rw[ho]at hO⊢
  obtain⟨p,v,rfl,hp,hxv⟩:=hO
  refine ifT rfl ⟨_,rfl,A.m,CM,A.dx,_,_,rfl,hM.m,RM.cl,RM.n3,l3,_,rfl,A.m,CM,A.dx,_,_,rfl,hM.m,RM.cl,RM.n5,l5,(ixT hp rfl ?_)⟩
  refine⟨A.o,A.L,us,t,v,rfl,hM.o,VRa.vr hC hx hxv,hsz,hT,λr H1 k1 hT1 hR=>⟨(by show 2<=sizeLine;decide),λp1 hp1=> ?_⟩⟩
  exact fin p1 r H1 _ k1 hT1 hR hp1 rfl
 ·rw[hv]
  exact ifF nZ ⟨_,rfl,A.m,CM,A.dx,_,_,rfl,hM.m,RM.cl,RM.n5,l5,fin out hO⟩
inductive spMInitW (CM C:Addr) (vs:List V) (H:Hp) (Q:VK):Prop
 |mk:∀(x dx bl num:Addr) (vb xs:List V) (main most:Nat) (bs:List Bk) (bk:Bk) (ws:List Vl),(vs=[.ref x,.ref bl,.int (main:Nat),.ref num,.int (most:Nat)])->(H x=some (.ins CM dx []))->(H bl=some (.lst vb))->(All2 (BAt H) bs vb)->(bs[main]? =some bk)->(H num=some (.lst xs))->(All2 (VAt H) ws xs)->(ws.length<=bk.sz)->(∀A H',A.m=x->(∀b ob,H b=some ob->b≠x->H' b=some ob)->(∀y∈A.own,y=x\/H y=none)->MAt CM C H' A bs most ⟨[],[begun main bk.sz ws],none,0,0⟩->Q .non H')->spMInitW CM C vs H Q
noncomputable def RZ(CM C:Addr):Sp:=λvs H Q _=>spMInitW CM C vs H Q
theorem ok_minit(F:Fun K "__init__" "Machine.__init__" s_minit fim dim)(B:NoG mg)(RM:MCls K CM gf gd)(M_Cells:Mk K C fi)(m_Cells:mg "Cells"=some (.ref C))
  (G___init__:FnOk P w K mg base CX0 1 fi di J1 (QQ C))(b___init__:Binds K di J1 [])
  (O6:Cn P w K mg base CX0 1 "entered" aOZ ZC):
  FnOk P w K mg base CX0 3 fim dim aUZ (RZ CM C):=by
 obtain⟨Y6,Y5,O6,Y7,Z0,Y8⟩:=O6
 refine F.ok sc_minit (λvs H Q E h=> ?_) (λcdv A outer s H vs Q E hr h=> ?_)
 ·obtain⟨x,dx,bl,num,vb,xs,main,most,bs,bk,ws,rfl,_⟩:=h
  rfl
 obtain⟨x,dx,bl,num,vb,xs,main,most,bs,bk,ws,rfl,hx,hbl,hB,hbk,hnum,hW,hwz,q⟩:=h
 have nd:=sc_minit.nd
 have hu:=hr.units0
 have zz:(1000:Nat)<=sizeLine:=by decide
 refine⟨_,(A6 (U2 (pv 0) (K0 (X7 (K:=K)) rfl B.list_ N0 (A0 (pv 1) A4)) rfl)
   (A6 (U2 (pv 0) (pv 4) rfl)
   (A6 (U2 (pv 0) (MQ M_Cells G___init__ (hr.mono (by omega)) rfl m_Cells b___init__ .nil B8) rfl)
   (A6 (U2 (pv 0) (D4 (A0 (B1 O6 (hr.mono (by omega)) rfl Y8 Z0 Y7 .nil B8 (A0 (pv 1) (A0 (pv 2) (A0 (pv 3) A4)))) A4)) rfl)
   (A6 (U2 (pv 0) N7 rfl)
   (A6 (U2 (pv 0) A5 rfl)
   (A7 (U2 (pv 0) A5 rfl)))))))), ?_⟩
 refine⟨_,rfl,bl,vb,rfl,.inl (SqL.of hbl),λnb hnb=> ?_⟩
 have t1:=A3 hnb (.lst vb)
 refine⟨_,rfl,x,CM,dx,_,rfl,t1 _ _ hx,RM.cl,RM.n1,(by decide), ?_⟩
 have nx1:nb≠x:=λe=>by rw[e,hx]at hnb;cases hnb
 have k1:∀b ob,H b=some ob->b≠x->upd (upd H nb (.lst vb)) x (.ins CM dx [("blocks",.ref nb)]) b=some ob:=λb ob e n=>by rw[B0 n];exact t1 _ _ e
 have hnb1:upd (upd H nb (.lst vb)) x (.ins CM dx [("blocks",.ref nb)]) nb=some (.lst vb):=by rw[B0 nx1];exact A2
 have hx1:upd (upd H nb (.lst vb)) x (.ins CM dx [("blocks",.ref nb)]) x=some (.ins CM dx [("blocks",.ref nb)]):=A2
 show M0 _ _ _ _ (upd (upd H nb (.lst vb)) x (.ins CM dx [("blocks",.ref nb)]))
 generalize upd (upd H nb (.lst vb)) x (.ins CM dx [("blocks",.ref nb)])=H1 at k1 hnb1 hx1⊢
 refine⟨_,rfl,_,rfl,x,CM,dx,_,rfl,hx1,RM.cl,RM.n2,(by show 1<1000;decide), ?_⟩
 have k2:∀b ob,H1 b=some ob->b≠x->upd H1 x (.ins CM dx [("blocks",.ref nb),("most",.int (most:Nat))]) b=some ob:=λb ob e n=>by rw[B0 n];exact e
 have hx2:upd H1 x (.ins CM dx [("blocks",.ref nb),("most",.int (most:Nat))]) x=some (.ins CM dx [("blocks",.ref nb),("most",.int (most:Nat))]):=A2
 show M0 _ _ _ _ (upd H1 x (.ins CM dx [("blocks",.ref nb),("most",.int (most:Nat))]))
 generalize upd H1 x (.ins CM dx [("blocks",.ref nb),("most",.int (most:Nat))])=H2 at k2 hx2⊢
 have nbx:∀ {b:Addr} {ob:HO},H b=some ob->(∀c d e,ob≠ .ins c d e)->b≠x:=λ{b ob} e n z=>by rw[z,hx]at e;exact n _ _ _ (Option.some.inj e).symm
 refine λo2 d2 ho2 hd2 hn2=>⟨o2,d2,rfl,A2,λL2 hL2=>⟨rfl, ?_⟩⟩
 obtain⟨s3,hC3,hL20⟩:=SL (C:=C) ho2 hd2 hn2 hL2
 generalize upd (upd (upd (upd H2 d2 (.own o2)) o2 (.ins C d2 [])) L2 (.lst [])) o2 (.ins C d2 [("in_order",.ref L2)])=H3 at s3 hC3⊢
 refine⟨_,rfl,x,CM,dx,_,rfl,s3 _ _ hx2,RM.cl,RM.n3,(by show 2<1000;decide), ?_⟩
 obtain⟨dxo,hoo,hLL⟩:=id hC3
 have n2x:o2≠x:=λe=>by rw[e,hx2]at ho2;cases ho2
 have nLx:L2≠x:=λe=>by rw[e,hx2]at hL20;cases hL20
 have k4:∀b ob,H3 b=some ob->b≠x->upd H3 x (.ins CM dx [("blocks",.ref nb),("most",.int (most:Nat)),("store",.ref o2)]) b=some ob:=λb ob e n=>by rw[B0 n];exact e
 have hx4:upd H3 x (.ins CM dx [("blocks",.ref nb),("most",.int (most:Nat)),("store",.ref o2)]) x=some (.ins CM dx [("blocks",.ref nb),("most",.int (most:Nat)),("store",.ref o2)]):=A2
 show M0 _ _ _ _ (upd H3 x (.ins CM dx [("blocks",.ref nb),("most",.int (most:Nat)),("store",.ref o2)]))
 generalize upd H3 x (.ins CM dx [("blocks",.ref nb),("most",.int (most:Nat)),("store",.ref o2)])=H4 at k4 hx4⊢
 have kk:∀b ob,H b=some ob->b≠x->H4 b=some ob:=λb ob e n=>k4 _ _ (s3 _ _ (k2 _ _ (k1 _ _ e n) n)) n
 have mo:Mo H H4:=λb zs e=>kk _ _ e (nbx e λc d f z=>nomatch z)
 obtain⟨u2,hu2,tb2,rs2,ur2,rfl,hb21,hb22,hb23,hb24⟩:=E3 hB hbk
 have lws:=hW.len
 refine⟨_,rfl,_,rfl,_,rfl,bl,vb,main,bk.sz,num,xs,rfl,kk _ _ hbl (nbx hbl λc d f z=>nomatch z),⟨tb2,_,_,hu2,mo _ _ hb21⟩,.inl (kk _ _ hnum (nbx hnum λc d f z=>nomatch z)),by omega,by omega,λp H5 s5 hF5=>⟨(by show 1<=sizeLine;omega),λsl hsl=> ?_⟩⟩
 have t6:=A3 hsl (.lst [.ref p])
 have hx6:=t6 _ _ (s5 _ _ hx4)
 refine⟨_,rfl,x,CM,dx,_,rfl,hx6,RM.cl,RM.n4,(by show 3<1000;decide), ?_⟩
 have nsx:sl≠x:=λe=>by rw[e,s5 _ _ hx4]at hsl;cases hsl
 have k7:∀b ob,upd H5 sl (.lst [.ref p]) b=some ob->b≠x->upd (upd H5 sl (.lst [.ref p])) x (.ins CM dx [("blocks",.ref nb),("most",.int (most:Nat)),("store",.ref o2),("standing",.ref sl)]) b=some ob:=λb ob e n=>by rw[B0 n];exact e
 have hx7:upd (upd H5 sl (.lst [.ref p])) x (.ins CM dx [("blocks",.ref nb),("most",.int (most:Nat)),("store",.ref o2),("standing",.ref sl)]) x=some (.ins CM dx [("blocks",.ref nb),("most",.int (most:Nat)),("store",.ref o2),("standing",.ref sl)]):=A2
 have hsl7:upd (upd H5 sl (.lst [.ref p])) x (.ins CM dx [("blocks",.ref nb),("most",.int (most:Nat)),("store",.ref o2),("standing",.ref sl)]) sl=some (.lst [.ref p]):=by rw[B0 nsx];exact A2
 show M0 _ _ _ _ (upd (upd H5 sl (.lst [.ref p])) x (.ins CM dx [("blocks",.ref nb),("most",.int (most:Nat)),("store",.ref o2),("standing",.ref sl)]))
 generalize upd (upd H5 sl (.lst [.ref p])) x (.ins CM dx [("blocks",.ref nb),("most",.int (most:Nat)),("store",.ref o2),("standing",.ref sl)])=H7 at k7 hx7 hsl7⊢
 refine⟨_,rfl,x,CM,dx,_,rfl,hx7,RM.cl,RM.n5,(by show 4<1000;decide), ?_⟩
 refine⟨_,rfl,x,CM,dx,_,rfl,A2,RM.cl,RM.n6,(by show 5<1000;decide), ?_⟩
 refine⟨_,rfl,x,CM,dx,_,rfl,A2,RM.cl,RM.n7,(by show 6<1000;decide), ?_⟩
 have k8:∀b ob,H7 b=some ob->b≠x->upd (upd (upd H7 x (.ins CM dx [("blocks",.ref nb),("most",.int (most:Nat)),("store",.ref o2),("standing",.ref sl),("outcome",.non)])) x (.ins CM dx [("blocks",.ref nb),("most",.int (most:Nat)),("store",.ref o2),("standing",.ref sl),("outcome",.non),("rows_so_far",.int 0)])) x (.ins CM dx (N3 ⟨x,dx,nb,o2,L2,sl⟩ (most:Nat) .non 0 0)) b=some ob:=λb ob e n=>by rw[B0 n,B0 n,B0 n];exact e
 have h47:∀b ob,H4 b=some ob->b≠x->H7 b=some ob:=λb ob e n=>k7 _ _ (t6 _ _ (s5 _ _ e)) n
 have moA:Mo H (upd (upd (upd H7 x (.ins CM dx [("blocks",.ref nb),("most",.int (most:Nat)),("store",.ref o2),("standing",.ref sl),("outcome",.non)])) x (.ins CM dx [("blocks",.ref nb),("most",.int (most:Nat)),("store",.ref o2),("standing",.ref sl),("outcome",.non),("rows_so_far",.int 0)])) x (.ins CM dx (N3 ⟨x,dx,nb,o2,L2,sl⟩ (most:Nat) .non 0 0))):=λb zs e=>k8 _ _ (h47 _ _ (mo _ _ e) (nbx e λc d f z=>nomatch z)) (nbx e λc d f z=>nomatch z)
 have hxT:∀ {b:Addr} {zs:List V},H5 b=some (.tup zs)->b≠x:=λ{b zs} e z=>by rw[z,s5 _ _ hx4]at e;cases e
 have mo5:Mo H5 (upd (upd (upd H7 x (.ins CM dx [("blocks",.ref nb),("most",.int (most:Nat)),("store",.ref o2),("standing",.ref sl),("outcome",.non)])) x (.ins CM dx [("blocks",.ref nb),("most",.int (most:Nat)),("store",.ref o2),("standing",.ref sl),("outcome",.non),("rows_so_far",.int 0)])) x (.ins CM dx (N3 ⟨x,dx,nb,o2,L2,sl⟩ (most:Nat) .non 0 0))):=λb zs e=>k8 _ _ (k7 _ _ (t6 _ _ e) (hxT e)) (hxT e)
 have fr:∀ {y:Addr},H2 y=none->H y=none:=λ{y} e=>by
  cases e':H y with
  |none=>rfl
  |some ob=>
   by_cases z:y=x
   ·rw[z,hx2]at e;cases e
   ·rw[k2 _ _ (k1 _ _ e' z) z]at e;cases e
 have hsl0:H sl=none:=by
  cases e':H sl with
  |none=>rfl
  |some ob=>rw[s5 _ _ (kk _ _ e' nsx)]at hsl;cases hsl
 have hnb4:H4 nb=some (.lst vb):=k4 _ _ (s3 _ _ (k2 _ _ hnb1 nx1)) nx1
 have hL4:H4 L2=some (.lst []):=k4 _ _ hLL nLx
 refine q ⟨x,dx,nb,o2,L2,sl⟩ _ rfl (λb ob e n=>k8 _ _ (h47 _ _ (kk _ _ e n) n) n) (λy hy=> ?_) ⟨vb,[],[.ref p],.non,⟨A2,k8 _ _ (h47 _ _ hnb4 nx1) nx1,⟨dxo,k8 _ _ (h47 _ _ (k4 _ _ hoo n2x) n2x) n2x,k8 _ _ (h47 _ _ hL4 nLx) nLx⟩,k8 _ _ hsl7 nsx, ?_, ?_, ?_⟩,hB.imp λ_ _ z=>BAt.mo moA z,.nil,.cons ⟨p,_,[],rfl,FrAt.mo' mo5 hF5, ?_,.nil⟩ .nil,rfl⟩
 ·simp only[Ad.own,mem_cons,not_mem_nil,or_false]at hy
  rcases hy with z|z|z|z|z
  ·exact .inl z
  ·exact .inr (by rw[z];exact hnb)
  ·exact .inr (by rw[z];exact fr ho2)
  ·exact .inr (by rw[z];exact fr hL20)
  ·exact .inr (by rw[z];exact hsl0)
 ·exact λ(e:L2=sl)=>by rw[<-e,s5 _ _ hL4]at hsl;cases hsl
 ·exact λ(e:nb=sl)=>by rw[<-e,s5 _ _ hnb4]at hsl;cases hsl
 ·exact λ(e:nb=L2)=>by
   have:H2 nb=some (.lst vb):=k2 _ _ hnb1 nx1
   rw[e,hL20]at this;cases this
 ·show All2 _ (ws++List.replicate (bk.sz - ws.length) (.sc .non)) _
  rw[lws]
  exact(hW.imp λ_ _ z=>VAt.mo moA z).app (S7 _)
end
noncomputable abbrev Tb(H:Hp)(Pt:Addr):Prop:=X9 H Pt PL.lamAt PL.lamQ
section
variable{CM C Pt:Addr}
theorem MR.ntbl{H:Hp}{A:Ad}{bs us fs:List V}{most r c:Int}{out:V}(h:MR CM C H A bs us fs most out r c){b:Addr}{ob:HO}(e:H b=some ob)(n1:∀x y z,ob≠ .ins x y z)(n2:∀x,ob≠ .lst x):b∉A.own:=λhm=>by
 obtain⟨dx,ho,hL⟩:=h.o
 simp only[Ad.own,mem_cons,not_mem_nil,or_false]at hm
 rcases hm with z|z|z|z|z<;>rw[z]at e
 ·rw[h.m]at e;exact n1 _ _ _ (Option.some.inj e).symm
 ·rw[h.bl]at e;exact n2 _ (Option.some.inj e).symm
 ·rw[ho]at e;exact n1 _ _ _ (Option.some.inj e).symm
 ·rw[hL]at e;exact n2 _ (Option.some.inj e).symm
 ·rw[h.s]at e;exact n2 _ (Option.some.inj e).symm
theorem MAt.tab{H H':Hp}{A:Ad}{bs:List Bk}{most:Nat}{S:Ms}(h:MAt CM C H A bs most S)(k:Kq A H H')(hT:Tb H Pt):Tb H' Pt:=by
 obtain⟨vb,us,fs,out,hM,_⟩:=h.ex
 obtain⟨qs,e1,e2,e3⟩:=hT
 refine⟨qs,k _ _ e1 (hM.ntbl e1 (λ_ _ _ z=>nomatch z) λ_ z=>nomatch z),e2, ?_⟩
 rcases e3 with e3|⟨c2,e3,e4⟩
 ·exact .inl e3
 ·exact .inr ⟨c2,e3,k _ _ e4 (hM.ntbl e4 (λ_ _ _ z=>nomatch z) λ_ z=>nomatch z)⟩
theorem MAt.ptn{H:Hp}{A:Ad}{bs:List Bk}{most:Nat}{S:Ms}(h:MAt CM C H A bs most S)(hT:Tb H Pt):Pt∉A.own:=by
 obtain⟨vb,us,fs,out,hM,_⟩:=h.ex
 obtain⟨qs,e1,_⟩:=hT
 exact hM.ntbl e1 (λ_ _ _ z=>nomatch z) λ_ z=>nomatch z
end
end MC
namespace MT
open PySem L2 CL SW MC
open BV hiding ifT ifF NoG top
inductive Tv where
 |sc (v:V)|pair (h t:Tv)|fn (b:Nat) (xs:Tv)|nil|cons (x xs:Tv)
noncomputable def Tv.nodes:Tv->Nat
 | .sc _=>0
 | .pair h t=>h.nodes+t.nodes+1
 | .fn _ xs=>xs.nodes+1
 | .nil=>0
 | .cons x xs=>x.nodes+xs.nodes
noncomputable def tl:List Tv->Tv
 | []=> .nil
 |x::xs=> .cons x (tl xs)
noncomputable def VT(cs:List Cl):Tv->(Vl->Prop)×(List Vl->Prop)
 | .sc v=>(λx=>x=.sc v,λ_=>False)
 | .pair h t=>(λx=>∃k a b,x=.cell k/\cs[k]? =some (.pair a b)/\(VT cs h).1 a/\(VT cs t).1 b,λ_=>False)
 | .fn b xs=>(λx=>∃k vs,x=.cell k/\cs[k]? =some (.fn (b:Nat) vs)/\(VT cs xs).2 vs,λ_=>False)
 | .nil=>(λ_=>False,λvs=>vs=[])
 | .cons x r=>(λ_=>False,λvs=>∃v w,vs=v::w/\(VT cs x).1 v/\(VT cs r).2 w)
noncomputable abbrev V1(cs:List Cl)(t:Tv)(x:Vl):Prop:=(VT cs t).1 x
theorem beZ{cs:List Cl}:∀ {ts:List Tv} {vs:List Vl},All2 (V1 cs) ts vs->(VT cs (tl ts)).2 vs
 | [],_,h=>by cases h;rfl
 |_::_,_,h=>by cases h with|cons h1 h2=>exact⟨_,_,rfl,h1,beZ h2⟩
theorem a0Z{cs:List Cl}:∀ {ts:List Tv} {vs:List Vl},(VT cs (tl ts)).2 vs->All2 (V1 cs) ts vs
 | [],_,h=>by cases h;exact .nil
 |_::_,_,⟨_,_,e,h1,h2⟩=>by subst e;exact .cons h1 (a0Z h2)
theorem VT.more{cs cs':List Cl}(m:∀(k:Nat) c,cs[k]? =some c->cs'[k]? =some c):∀t:Tv,(∀ {x:Vl},(VT cs t).1 x->(VT cs' t).1 x)/\∀ {vs:List Vl},(VT cs t).2 vs->(VT cs' t).2 vs
 | .sc _=>⟨λh=>h,λh=>h⟩
 | .pair h t=>⟨λ⟨k,a,b,e,hk,h1,h2⟩=>⟨k,a,b,e,m _ _ hk,(VT.more m h).1 h1,(VT.more m t).1 h2⟩,λh=>h⟩
 | .fn b xs=>⟨λ⟨k,vs,e,hk,h1⟩=>⟨k,vs,e,m _ _ hk,(VT.more m xs).2 h1⟩,λh=>h⟩
 | .nil=>⟨λh=>h,λh=>h⟩
 | .cons x xs=>⟨λh=>h,λ⟨v,w,e,h1,h2⟩=>⟨v,w,e,(VT.more m x).1 h1,(VT.more m xs).2 h2⟩⟩
theorem V1.app{cs:List Cl}{t:Tv}{x:Vl}(c:Cl)(h:V1 cs t x):V1 (cs++ [c]) t x:=
 (VT.more (λk d e=>by rw[getElem?_append_left (List.getElem?_eq_some_iff.mp e).1];exact e) t).1 h
theorem V1.lt{cs:List Cl}{t:Tv}{k:Nat}(h:V1 cs t (.cell k)):k<cs.length:=by
 cases t with
 |sc v=>cases h
 |pair a b=>obtain⟨j,_,_,e,hj,_⟩:=h;cases e;exact(List.getElem?_eq_some_iff.mp hj).1
 |fn b xs=>obtain⟨j,_,e,hj,_⟩:=h;cases e;exact(List.getElem?_eq_some_iff.mp hj).1
 |nil=>cases h
 |cons a b=>cases h
structure Tf where
 k:Nat
 at_:Nat
 sl:List Tv
 st:List Tv
inductive To where
 |value (t:Tv)|refused (w:Str)|dry|deep
structure Tm where
 frs:List Tf
 out:Option To
 r:Nat
 c:Nat
 n:Nat
inductive Eo3 where
 |fr (d:Nat) (sl st:List Tv)|rf (w:Str)|new (t:Tv) (st:List Tv)
inductive Et (sl:List Tv):Rk->List Tv->Eo3->Prop
 |push {v st}:scV v=true->Et sl (.push v) st (.fr 1 sl (st++ [.sc v]))
 |non {st}:Et sl .non st (.fr 1 sl (st++ [.sc .non]))
 |load {j v st}:sl[j]? =some v->Et sl (.load j) st (.fr 1 sl (st++ [v]))
 |keep {j v st}:j<sl.length->Et sl (.keep j) (st++ [v]) (.fr 1 (sl.take j++ [v]++sl.drop (j+1)) st)
 |twoV {k a b v st}:k<6->Bd a->Bd b->NM.tw k a b=[.str "value",v]->scV v=true->Et sl (.two k) (st++ [.sc (.int a),.sc (.int b)]) (.fr 1 sl (st++ [.sc v]))
 |twoR {k a b w st}:k<6->Bd a->Bd b->NM.tw k a b=[.str "refused",.str w]->Et sl (.two k) (st++ [.sc (.int a),.sc (.int b)]) (.rf w)
 |cons {x y st}:Et sl .cons (st++ [x,y]) (.new (.pair x y) st)
 |headN {st}:Et sl .head (st++ [.sc .non]) (.rf "head")
 |tailN {st}:Et sl .tail (st++ [.sc .non]) (.rf "tail")
 |head {h t st}:Et sl .head (st++ [.pair h t]) (.fr 1 sl (st++ [h]))
 |tail {h t st}:Et sl .tail (st++ [.pair h t]) (.fr 1 sl (st++ [t]))
 |emptyN {st}:Et sl .empty (st++ [.sc .non]) (.fr 1 sl (st++ [.sc (.bl true)]))
 |empty {h t st}:Et sl .empty (st++ [.pair h t]) (.fr 1 sl (st++ [.sc (.bl false)]))
 |not {b st}:Et sl .not (st++ [.sc (.bl b)]) (.fr 1 sl (st++ [.sc (.bl (!b))]))
 |skip {n st}:Et sl (.skip n) st (.fr (1+n) sl st)
 |unless {n b st}:Et sl (.unless n) (st++ [.sc (.bl b)]) (.fr (1+if b=true then 0 else n) sl st)
 |close {b n st xs}:xs.length=n->n<=10->Et sl (.close b n) (st++xs) (.new (.fn b (tl xs)) st)
noncomputable def YW(bs:List Bk)(f:Tf):Option Rw:=(bs[f.k]?).bind λb=>b.rows[f.at_]?
noncomputable def Q7(n sz:Nat)(vs:List Tv):Tf:=⟨n,0,vs++List.replicate (sz - vs.length) (.sc .non),[]⟩
inductive ActT (bs:List Bk) (most:Nat) (fs:List Tf) (f:Tf) (r c n:Nat):Rw->Tm->Prop
 |own {rk d sl st}:Et f.sl rk f.st (.fr d sl st)->ActT bs most fs f r c n (.own rk) ⟨fs++ [⟨f.k,f.at_+d,sl,st⟩],none,r+1,c,n⟩
 |new {rk t st}:Et f.sl rk f.st (.new t st)->ActT bs most fs f r c n (.own rk) ⟨fs++ [⟨f.k,f.at_+1,f.sl,st++ [t]⟩],none,r+1,c,n+1⟩
 |rf {rk w}:Et f.sl rk f.st (.rf w)->ActT bs most fs f r c n (.own rk) ⟨[],some (.refused w),r+1,c,n⟩
 |last {v st}:fs=[]->f.st=st++ [v]->ActT bs most fs f r c n .back ⟨[],some (.value v),r+1,c,n⟩
 |back {gs g v st}:fs=gs++ [g]->f.st=st++ [v]->ActT bs most fs f r c n .back ⟨gs++ [⟨g.k,g.at_,g.sl,g.st++ [v]⟩],none,r+1,c,n⟩
 |dry {w}:U1 w->most<=c->ActT bs most fs f r c n w ⟨[],some .dry,r+1,c,n⟩
 |deep {w}:U1 w->c<most->60<=fs.length+1->ActT bs most fs f r c n w ⟨[],some .deep,r+1,c+1,n⟩
 |call {b bk st xs}:c<most->fs.length+1<60->f.st=st++xs->bs[b]? =some bk->xs.length<=bk.sz->ActT bs most fs f r c n (.call b xs.length) ⟨fs++ [⟨f.k,f.at_+1,f.sl,st⟩]++ [Q7 b bk.sz xs],none,r+1,c+1,n⟩
 |apply {b bk st xs x}:c<most->fs.length+1<60->f.st=st++ [.fn b (tl xs),x]->bs[b]? =some bk->xs.length+1<=bk.sz->
  ActT bs most fs f r c n .apply ⟨fs++ [⟨f.k,f.at_+1,f.sl,st⟩]++ [Q7 b bk.sz (xs++ [x])],none,r+1,c+1,n⟩
noncomputable def SM(bs:List Bk)(most:Nat)(T T':Tm):Prop:=∃fs f r c n w,T=⟨fs++ [f],none,r,c,n⟩/\YW bs f=some w/\ActT bs most fs f r c n w T'
structure SimF (cs:List Cl) (t:Tf) (f:Fr):Prop where
 k:f.k=t.k
 at_:f.at_=t.at_
 sl:All2 (V1 cs) t.sl f.sl
 st:All2 (V1 cs) t.st f.st
noncomputable def d5Z(cs:List Cl):Option To->Option Ou->Prop
 |none,o=>o=none
 |some (.value t),o=>∃x,o=some (.value x)/\V1 cs t x
 |some (.refused w),o=>o=some (.refused w)
 |some .dry,o=>o=some .dry
 |some .deep,o=>o=some .deep
structure Sim (S:Ms) (T:Tm):Prop where
 frs:All2 (SimF S.cs) T.frs S.frs
 out:d5Z S.cs T.out S.out
 r:S.r=T.r
 c:S.c=T.c
 n:S.cs.length<=T.n
 okc:Okc S.cs
theorem AZ{cs:List Cl}(c:Cl){ts:List Tv}{vs:List Vl}(h:All2 (V1 cs) ts vs):All2 (V1 (cs++ [c])) ts vs:=h.imp λ_ _ z=>V1.app c z
theorem SimF.app{cs:List Cl}(c:Cl){t:Tf}{f:Fr}(h:SimF cs t f):SimF (cs++ [c]) t f:=⟨h.k,h.at_,AZ c h.sl,AZ c h.st⟩
theorem avZ{cs:List Cl}(h:Okc cs){c:Cl}(hc:∀j,Vl.cell j∈vin c->j<cs.length):Okc (cs++ [c]):=λk j d hk hj=>by
 rw[length_append]
 rcases lt_or_ge k cs.length with hl|hl
 ·rw[getElem?_append_left hl]at hk
  exact lt_of_lt_of_le (h k j d hk hj) (le_add_right _ _)
 ·rw[getElem?_append_right hl]at hk
  have:k - cs.length=0:=by
   cases e:k - cs.length with
   |zero=>rfl
   |succ n=>rw[e]at hk;simp at hk
  rw[this]at hk
  cases hk
  exact lt_of_lt_of_le (hc j hj) (le_add_right _ _)
theorem YY{cs:List Cl}{ts:List Tv}{vs:List Vl}(h:All2 (V1 cs) ts vs):∀j,Vl.cell j∈vs->j<cs.length:=λj hj=>by
 obtain⟨i,hi⟩:=getElem?_of_mem hj
 obtain⟨t,_,ht⟩:=h.get hi
 exact V1.lt ht
theorem YL{cs:List Cl}{sl:List Tv}{sl':List Vl}(hs:All2 (V1 cs) sl sl'){rk:Rk}{st:List Tv}{eo:Eo3}(h:Et sl rk st eo):∀ {st':List Vl},All2 (V1 cs) st st'->
  (match eo with
   | .fr d sl1 st1=>∃sl2 st2,Er cs sl' rk st' (.fr d sl2 st2)/\All2 (V1 cs) sl1 sl2/\All2 (V1 cs) st1 st2
   | .rf w=>Er cs sl' rk st' (.rf w)
   | .new t st1=>∃c st2,Er cs sl' rk st' (.new c st2)/\All2 (V1 cs) st1 st2/\V1 (cs++ [c]) t (.cell cs.length)/\∀j,Vl.cell j∈vin c->j<cs.length):=by
 have n1:∀ {v:V},V1 cs (.sc v) (.sc v):=rfl
 cases h with
 |push h=>exact λ{st'} ht=>⟨_,_,.push h,hs,ht.app (.cons n1 .nil)⟩
 |non=>exact λ{st'} ht=>⟨_,_,.non,hs,ht.app (.cons n1 .nil)⟩
 |load h=>
  intro st' ht
  obtain⟨v',hv,hR⟩:=E3 hs h
  exact⟨_,_,.load hv,hs,ht.app (.cons hR .nil)⟩
 |keep h=>
  intro st' ht
  obtain⟨ds,d,rfl,h1,h2⟩:=C4 ht
  exact⟨_,_,.keep (by rw[<-hs.len];exact h),((CC hs _).app (.cons h2 .nil)).app (MC.all2_drop hs _),h1⟩
 |twoV h1 h2 h3 h4 h5=>
  intro st' ht
  obtain⟨ds,es,rfl,t1,t2⟩:=E1 ht
  cases t2 with
  |cons a1 t3=>
   cases t3 with
   |cons a2 t4=>
    cases t4
    cases a1
    cases a2
    exact⟨_,_,.twoV h1 h2 h3 h4 h5,hs,t1.app (.cons n1 .nil)⟩
 |twoR h1 h2 h3 h4=>
  intro st' ht
  obtain⟨ds,es,rfl,t1,t2⟩:=E1 ht
  cases t2 with
  |cons a1 t3=>
   cases t3 with
   |cons a2 t4=>
    cases t4
    cases a1
    cases a2
    exact .twoR h1 h2 h3 h4
 |cons=>
  intro st' ht
  obtain⟨ds,es,rfl,t1,t2⟩:=E1 ht
  cases t2 with
  | @cons _ x' _ _ a1 t3=>
   cases t3 with
   | @cons _ y' _ _ a2 t4=>
    cases t4
    refine⟨.pair x' y',ds,.cons,t1,⟨cs.length,x',y',rfl,by simp,V1.app _ a1,V1.app _ a2⟩,λj hj=> ?_⟩
    exact YY (vs:=[x',y']) (.cons a1 (.cons a2 .nil)) j hj
 |headN=>
  intro st' ht
  obtain⟨ds,d,rfl,h1,h2⟩:=C4 ht
  cases h2
  exact .headN
 |tailN=>
  intro st' ht
  obtain⟨ds,d,rfl,h1,h2⟩:=C4 ht
  cases h2
  exact .tailN
 |head=>
  intro st' ht
  obtain⟨ds,d,rfl,h1,k,a,b,rfl,hk,ha,hb⟩:=C4 ht
  exact⟨_,_,.head hk,hs,h1.app (.cons ha .nil)⟩
 |tail=>
  intro st' ht
  obtain⟨ds,d,rfl,h1,k,a,b,rfl,hk,ha,hb⟩:=C4 ht
  exact⟨_,_,.tail hk,hs,h1.app (.cons hb .nil)⟩
 |emptyN=>
  intro st' ht
  obtain⟨ds,d,rfl,h1,h2⟩:=C4 ht
  cases h2
  exact⟨_,_,.emptyN,hs,h1.app (.cons n1 .nil)⟩
 |empty=>
  intro st' ht
  obtain⟨ds,d,rfl,h1,k,a,b,rfl,hk,ha,hb⟩:=C4 ht
  exact⟨_,_,.empty,hs,h1.app (.cons n1 .nil)⟩
 |not=>
  intro st' ht
  obtain⟨ds,d,rfl,h1,h2⟩:=C4 ht
  cases h2
  exact⟨_,_,.not,hs,h1.app (.cons n1 .nil)⟩
 |skip=>exact λ{st'} ht=>⟨_,_,.skip,hs,ht⟩
 |«unless»=>
  intro st' ht
  obtain⟨ds,d,rfl,h1,h2⟩:=C4 ht
  cases h2
  exact⟨_,_,.unless,hs,h1⟩
 | @close b n st1 xs h h'=>
  intro st' ht
  obtain⟨ds,es,rfl,t1,t2⟩:=E1 ht
  refine⟨.fn b es,ds,.close (by rw[<-t2.len];exact h) h',t1,⟨cs.length,es,rfl,by simp, ?_⟩,YY t2⟩
  exact beZ (AZ _ t2)
theorem aqZ{bs:List Bk}{cs:List Cl}{t:Tf}{f:Fr}(h:SimF cs t f):DB bs f=YW bs t:=by
 unfold DB YW
 rw[h.k,h.at_]
theorem ZN{cs:List Cl}:∀n:Nat,All2 (V1 cs) (List.replicate n (.sc .non)) (List.replicate n (.sc .non))
 |0=> .nil
 |n+1=> .cons rfl (ZN n)
theorem CV{cs:List Cl}{n sz:Nat}{ts:List Tv}{vs:List Vl}(h:All2 (V1 cs) ts vs):SimF cs (Q7 n sz ts) (begun n sz vs):=by
 refine⟨rfl,rfl, ?_,.nil⟩
 show All2 _ (ts++List.replicate (sz - ts.length) (.sc .non)) (vs++List.replicate (sz - vs.length) (.sc .non))
 rw[h.len]
 exact h.app (ZN _)
theorem YD{bs:List Bk}{most:Nat}{S:Ms}{T T':Tm}(h:Sim S T)(st:SM bs most T T'):∃S',axZ bs most S S'/\Sim S' T':=by
 obtain⟨fs,f,r,c,n,w,rfl,hw,ha⟩:=st
 obtain⟨cs,frs,out,r',c'⟩:=S
 obtain⟨hF,hO,hr,hc,hn,hk⟩:=h
 simp only at hF hO hr hc hn hk
 subst hr hc
 obtain⟨gs,g,rfl,hG,hg⟩:=C4 hF
 obtain rfl:=hO
 have hrow:DB bs g=some w:=by rw[aqZ hg];exact hw
 have lG:=hG.len
 cases ha with
 |own hE=>
  obtain⟨sl2,st2,e1,e2,e3⟩:=YL hg.sl hE hg.st
  exact⟨_,⟨cs,gs,g,_,_,_,rfl,hrow,.own e1⟩,hG.app (.cons ⟨hg.k,by rw[hg.at_],e2,e3⟩ .nil),rfl,rfl,rfl,hn,hk⟩
 |new hE=>
  obtain⟨cl,st2,e1,e2,e3,e4⟩:=YL hg.sl hE hg.st
  refine⟨_,⟨cs,gs,g,_,_,_,rfl,hrow,.new e1⟩, ?_,rfl,rfl,rfl, ?_,avZ hk e4⟩
  ·exact(hG.imp λ_ _ z=>SimF.app cl z).app (.cons ⟨hg.k,by rw[hg.at_],AZ cl hg.sl,(AZ cl e2).app (.cons e3 .nil)⟩ .nil)
  ·show(cs++ [cl]).length<=n+1
   rw[length_append]
   exact Nat.add_le_add_right hn 1
 |rf hE=>exact⟨_,⟨cs,gs,g,_,_,_,rfl,hrow,.rf (YL hg.sl hE hg.st)⟩,.nil,rfl,rfl,rfl,hn,hk⟩
 |last hfs hst=>
  subst hfs
  cases hG
  have h1:=hg.st
  rw[hst]at h1
  obtain⟨ds,d,e,h2,h3⟩:=C4 h1
  exact⟨_,⟨cs,[],g,_,_,_,rfl,hrow,.last rfl e⟩,.nil,⟨_,rfl,h3⟩,rfl,rfl,hn,hk⟩
 |back hfs hst=>
  subst hfs
  obtain⟨gs',g',rfl,hG',hg'⟩:=C4 hG
  have h1:=hg.st
  rw[hst]at h1
  obtain⟨ds,d,e,h2,h3⟩:=C4 h1
  exact⟨_,⟨cs,_,g,_,_,_,rfl,hrow,.back rfl e⟩,hG'.app (.cons ⟨hg'.k,hg'.at_,hg'.sl,hg'.st.app (.cons h3 .nil)⟩ .nil),rfl,rfl,rfl,hn,hk⟩
 |dry h1 h2=>exact⟨_,⟨cs,gs,g,_,_,_,rfl,hrow,.dry h1 h2⟩,.nil,rfl,rfl,rfl,hn,hk⟩
 |deep h1 h2 h3=>exact⟨_,⟨cs,gs,g,_,_,_,rfl,hrow,.deep h1 h2 (by omega)⟩,.nil,rfl,rfl,rfl,hn,hk⟩
 | @call b bk st1 xs h1 h2 h3 h4 h5=>
  have h6:=hg.st
  rw[h3]at h6
  obtain⟨ds,es,e,h7,h8⟩:=E1 h6
  have l8:=h8.len
  rw[l8]at hrow
  have n1:SimF cs ⟨f.k,f.at_+1,f.sl,st1⟩ ⟨g.k,g.at_+1,g.sl,ds⟩:=⟨hg.k,congrArg (·+1) hg.at_,hg.sl,h7⟩
  exact⟨_,⟨cs,gs,g,_,_,_,rfl,hrow,.call (xs:=es) h1 (by omega) e h4 (by omega)⟩,(hG.app (.cons n1 .nil)).app (.cons (CV h8) .nil),rfl,rfl,rfl,hn,hk⟩
 | @apply b bk st1 xs x h1 h2 h3 h4 h5=>
  have h6:=hg.st
  rw[h3]at h6
  obtain⟨ds,es,e,h7,h8⟩:=E1 h6
  cases h8 with
  |cons a1 t3=>
   cases t3 with
   |cons a2 t4=>
    cases t4
    obtain⟨k,vs,rfl,hkc,hvs⟩:=a1
    have hx:=a0Z hvs
    have lx:=hx.len
    have n1:SimF cs ⟨f.k,f.at_+1,f.sl,st1⟩ ⟨g.k,g.at_+1,g.sl,ds⟩:=⟨hg.k,congrArg (·+1) hg.at_,hg.sl,h7⟩
    exact⟨_,⟨cs,gs,g,_,_,_,rfl,hrow,.apply h1 (by omega) e hkc h4 (by omega)⟩,(hG.app (.cons n1 .nil)).app (.cons (CV (hx.app (.cons a2 .nil))) .nil),rfl,rfl,rfl,hn,hk⟩
noncomputable def PU:PL.Pv->Tv
 | .int i=> .sc (.int i)
 | .bl b=> .sc (.bl b)
 | .nil=> .sc .non
 | .cons h t=> .pair (PU h) (PU t)
theorem PJ{cs:List Cl}:∀ {p:PL.Pv} {x:Vl},V1 cs (PU p) x->VRa cs p x
 | .int _,_,h=>h
 | .bl _,_,h=>h
 | .nil,_,h=>h
 | .cons _ _,_,⟨k,a,b,e,hk,h1,h2⟩=>⟨k,a,b,e,hk,PJ h1,PJ h2⟩
theorem FG{S:Ms}{T:Tm}(h:Sim S T):S.out=none↔T.out=none:=by
 have ho:=h.out
 cases e:T.out with
 |none=>rw[e]at ho;exact⟨λ_=>rfl,λ_=>ho⟩
 |some o=>
  rw[e]at ho
  refine⟨λz=> ?_,λz=>(nomatch z)⟩
  cases o with
  |value t=>obtain⟨x,hx,_⟩:=ho;rw[hx]at z;cases z
  |refused w=>rw[show S.out=_ from ho]at z;cases z
  |dry=>rw[show S.out=_ from ho]at z;cases z
  |deep=>rw[show S.out=_ from ho]at z;cases z
theorem VA{bk:Bk}{main:Nat}{ts:List Tv}{vs:List Vl}(h:All2 (V1 []) ts vs):Sim ⟨[],[begun main bk.sz vs],none,0,0⟩ ⟨[Q7 main bk.sz ts],none,0,0,0⟩:=
 ⟨.cons (CV h) .nil,rfl,rfl,rfl,le_refl _,λk j c hk=>by simp at hk⟩
end MT
namespace PG
open PySem L2 CL SW MC MT
open BV hiding ifT ifF NoG top
inductive Kd where
 |n|t|l|L|F|fn (k:Kd)
noncomputable abbrev Hs:=List (List Kd×Kd)
inductive Prt:Kd->Kd->Prop
 |l:Prt .n .l
 |L:Prt .l .L
 |F:Prt (.fn .n) .F
noncomputable def len:Tv->Nat
 | .pair _ t=>len t+1
 |_=>0
inductive Ty (hs:Hs) (N:Nat):Sum Kd (List Kd)->Tv->Prop
 |n {i:Int}:Bd i->Ty hs N (.inl .n) (.sc (.int i))
 |t {b:Bool}:Ty hs N (.inl .t) (.sc (.bl b))
 |nil {p k}:Prt p k->Ty hs N (.inl k) (.sc .non)
 |pair {p k h r}:Prt p k->Ty hs N (.inl p) h->Ty hs N (.inl k) r->len r+1<=N->Ty hs N (.inl k) (.pair h r)
 |fn {b xs ps k}:hs[b]? =some (ps++ [.n],k)->Ty hs N (.inr ps) xs->Ty hs N (.inl (.fn k)) (.fn b xs)
 |none:Ty hs N (.inr []) .nil
 |some {k ks x xs}:Ty hs N (.inl k) x->Ty hs N (.inr ks) xs->Ty hs N (.inr (k::ks)) (.cons x xs)
noncomputable abbrev T1(hs:Hs)(N:Nat)(k:Kd)(v:Tv):Prop:=Ty hs N (.inl k) v
theorem Ty.mono{hs:Hs}{N M:Nat}(h:N<=M){s:Sum Kd (List Kd)}{v:Tv}(z:Ty hs N s v):Ty hs M s v:=by
 induction z with
 |n hb=>exact .n hb
 |t=>exact .t
 |nil hp=>exact .nil hp
 |pair hp _ _ hl ih1 ih2=>exact .pair hp ih1 ih2 (le_trans hl h)
 |fn hb _ ih=>exact .fn hb ih
 |none=>exact .none
 |some _ _ ih1 ih2=>exact .some ih1 ih2
theorem a9Z{hs:Hs}{N:Nat}:∀ {ks:List Kd} {xs:Tv},Ty hs N (.inr ks) xs->∃ts,xs=tl ts/\All2 (T1 hs N) ks ts
 | [],_,h=>by cases h;exact⟨[],rfl,.nil⟩
 |k::ks,_,h=>by
  cases h with
  |some h1 h2=>
   obtain⟨ts,e,h3⟩:=a9Z h2
   exact⟨_::ts,by rw[e];rfl,.cons h1 h3⟩
theorem a3Z{hs:Hs}{N:Nat}:∀ {ks:List Kd} {ts:List Tv},All2 (T1 hs N) ks ts->Ty hs N (.inr ks) (tl ts)
 | [],_,h=>by cases h;exact .none
 |k::ks,_,h=>by cases h with|cons h1 h2=>exact .some h1 (a3Z h2)
theorem len_le{hs:Hs}{N:Nat}{k:Kd}{v:Tv}(h:T1 hs N k v):len v<=N:=by
 cases h with
 |n _=>exact zero_le _
 |t=>exact zero_le _
 |nil _=>exact zero_le _
 |pair _ _ _ hl=>exact hl
 |fn _ _=>exact zero_le _
structure At where
 st:List Kd
 sl:List (Option Kd)
noncomputable def SlK(hs:Hs)(N:Nat):Option Kd->Tv->Prop
 |none,_=>True
 |some k,v=>T1 hs N k v
inductive RowK (hs:Hs) (told:Kd) (tys:List At) (i:Nat):Rw->At->Prop
 |pushN {m st sl}:Bd m->tys[i+1]? =some ⟨st++ [.n],sl⟩->RowK hs told tys i (.own (.push (.int m))) ⟨st,sl⟩
 |pushT {b st sl}:tys[i+1]? =some ⟨st++ [.t],sl⟩->RowK hs told tys i (.own (.push (.bl b))) ⟨st,sl⟩
 |non {p k st sl}:Prt p k->tys[i+1]? =some ⟨st++ [k],sl⟩->RowK hs told tys i (.own .non) ⟨st,sl⟩
 |load {j k st sl}:sl[j]? =some (some k)->tys[i+1]? =some ⟨st++ [k],sl⟩->RowK hs told tys i (.own (.load j)) ⟨st,sl⟩
 |keep {j k st sl}:j<sl.length->tys[i+1]? =some ⟨st,sl.take j++ [some k]++sl.drop (j+1)⟩->RowK hs told tys i (.own (.keep j)) ⟨st++ [k],sl⟩
 |two {m st sl}:m<6->tys[i+1]? =some ⟨st++ [if m=3\/m=4 then .t else .n],sl⟩->RowK hs told tys i (.own (.two m)) ⟨st++ [.n,.n],sl⟩
 |cons {p k st sl}:Prt p k->tys[i+1]? =some ⟨st++ [k],sl⟩->RowK hs told tys i (.own .cons) ⟨st++ [p,k],sl⟩
 |head {p k st sl}:Prt p k->tys[i+1]? =some ⟨st++ [p],sl⟩->RowK hs told tys i (.own .head) ⟨st++ [k],sl⟩
 |tail {p k st sl}:Prt p k->tys[i+1]? =some ⟨st++ [k],sl⟩->RowK hs told tys i (.own .tail) ⟨st++ [k],sl⟩
 |empty {p k st sl}:Prt p k->tys[i+1]? =some ⟨st++ [.t],sl⟩->RowK hs told tys i (.own .empty) ⟨st++ [k],sl⟩
 |not {st sl}:tys[i+1]? =some ⟨st++ [.t],sl⟩->RowK hs told tys i (.own .not) ⟨st++ [.t],sl⟩
 |skip {m st sl}:tys[i+(1+m)]? =some ⟨st,sl⟩->RowK hs told tys i (.own (.skip m)) ⟨st,sl⟩
 |unless {m st sl}:tys[i+(1+0)]? =some ⟨st,sl⟩->tys[i+(1+m)]? =some ⟨st,sl⟩->RowK hs told tys i (.own (.unless m)) ⟨st++ [.t],sl⟩
 |close {b ps k st sl}:hs[b]? =some (ps++ [.n],k)->ps.length<=10->tys[i+1]? =some ⟨st++ [.fn k],sl⟩->RowK hs told tys i (.own (.close b ps.length)) ⟨st++ps,sl⟩
 |call {b ps k st sl}:hs[b]? =some (ps,k)->tys[i+1]? =some ⟨st++ [k],sl⟩->RowK hs told tys i (.call b ps.length) ⟨st++ps,sl⟩
 |apply {k st sl}:tys[i+1]? =some ⟨st++ [k],sl⟩->RowK hs told tys i .apply ⟨st++ [.fn k,.n],sl⟩
 |back {st sl}:RowK hs told tys i .back ⟨st++ [told],sl⟩
noncomputable def wt:Rw->Nat
 | .own .cons=>1
 | .own (.close _ _)=>1
 |_=>0
structure BkOk (hs:Hs) (b:Nat) (bk:Bk) (ps:List Kd) (told:Kd) (tys:List At):Prop where
 hd:hs[b]? =some (ps,told)
 sz:bk.sz=ps.length+3
 t0:tys[0]? =some ⟨[],ps.map some++ [none,none,none]⟩
 len:tys.length=bk.rows.length
 row:∀i r,bk.rows[i]? =some r->∃a,tys[i]? =some a/\RowK hs told tys i r a
 few:bk.rows.length<=80
 wt:(bk.rows.map wt).sum<=8
 st:∀a∈tys,a.st.length<=80
 sl:∀a∈tys,a.sl.length<=20
noncomputable def YC(hs:Hs)(bs:List Bk):Prop:=∀b ps k,hs[b]? =some (ps,k)->∃bk tys,bs[b]? =some bk/\BkOk hs b bk ps k tys
noncomputable def left(bk:Bk)(f:Tf):Nat:=bk.rows.length - f.at_
noncomputable def W6(bk:Bk)(f:Tf):Nat:=((bk.rows.drop f.at_).map wt).sum
structure FK (hs:Hs) (N:Nat) (bk:Bk) (f:Tf) (ps:List Kd) (told:Kd) (tys:List At) (all st:List Kd) (sl:List (Option Kd)):Prop where
 ok:BkOk hs f.k bk ps told tys
 at_:tys[f.at_]? =some ⟨all,sl⟩
 st:All2 (T1 hs N) st f.st
 sl:All2 (SlK hs N) sl f.sl
inductive Wt (hs:Hs) (bs:List Bk) (N:Nat) (mt:Kd):List Tf->Kd->Nat->Nat->Prop
 |nil:Wt hs bs N mt [] mt 0 0
 |snoc {fs f k0 k ps bk tys st sl R W}:Wt hs bs N mt fs k0 R W->bs[f.k]? =some bk->FK hs N bk f ps k0 tys (st++ [k]) st sl->Wt hs bs N mt (fs++ [f]) k (R+left bk f) (W+W6 bk f)
theorem IG{hs:Hs}{N M:Nat}(h:N<=M){ks:List Kd}{vs:List Tv}(z:All2 (T1 hs N) ks vs):All2 (T1 hs M) ks vs:=z.imp λ_ _ y=>y.mono h
theorem MJ{hs:Hs}{N M:Nat}(h:N<=M):∀ {k:Option Kd} {v:Tv},SlK hs N k v->SlK hs M k v
 |none,_,_=>trivial
 |some _,_,z=>Ty.mono h z
theorem FK.mono{hs:Hs}{N M:Nat}(h:N<=M){bk:Bk}{f:Tf}{ps:List Kd}{told:Kd}{tys:List At}{all st:List Kd}{sl:List (Option Kd)}(z:FK hs N bk f ps told tys all st sl):FK hs M bk f ps told tys all st sl:=
 ⟨z.ok,z.at_,IG h z.st,z.sl.imp λ_ _ y=>MJ h y⟩
theorem Wt.mono{hs:Hs}{bs:List Bk}{N M:Nat}(h:N<=M){mt:Kd}{fs:List Tf}{k:Kd}{R W:Nat}(z:Wt hs bs N mt fs k R W):Wt hs bs M mt fs k R W:=by
 induction z with
 |nil=>exact .nil
 |snoc _ hb hf ih=>exact .snoc ih hb (hf.mono h)
structure Run (hs:Hs) (bs:List Bk) (most:Nat) (mt:Kd) (T:Tm) (M:Nat):Prop where
 ex:∃fs f r c n ps bk tys k0 st sl R W,T=⟨fs++ [f],none,r,c,n⟩/\Wt hs bs n mt fs k0 R W/\bs[f.k]? =some bk/\FK hs n bk f ps k0 tys st st sl/\fs.length<=c/\c<=most/\n+W+W6 bk f<=8*(c+1)/\R+left bk f+(most - c)*81<=M
theorem acZ{p q k:Kd}(h:Prt p k)(h':Prt q k):p=q:=by cases h<;>cases h'<;>rfl
theorem aoZ{a b:Int}(h1: -NM.GR<=a)(h2:a<=NM.GR)(hb:b≠0):Bd (a.fdiv b):=by
 have key:(a.fdiv b).natAbs<=a.natAbs:=by
  rcases Int.lt_or_gt_of_ne hb with h|h
  ·rw[<-Int.neg_fdiv_neg,Int.fdiv_eq_ediv_of_nonneg _ (by omega)]
   have:=Int.natAbs_ediv_le_natAbs (-a) (-b)
   rwa [Int.natAbs_neg]at this
  ·rw[Int.fdiv_eq_ediv_of_nonneg _ (by omega)]
   exact Int.natAbs_ediv_le_natAbs a b
 have e:NM.GR=10000000000000000000000000000000000000000:=rfl
 rw[e]at h1 h2
 generalize a.fdiv b=q at key⊢
 constructor
 ·rw[e];omega
 ·rw[e];omega
theorem YZ{k:Nat}(hk:k<6)(a b:Int):(∃v,NM.tw k a b=[.str "value",v]/\scV v=true/\∀(hs:Hs) (N:Nat),Bd a->Bd b->T1 hs N (if k=3\/k=4 then .t else .n) (.sc v))\/∃w,NM.tw k a b=[.str "refused",.str w]:=by
 have hb:∀m:Int,(∃v,NM.bnd m=[.str "value",v]/\scV v=true/\∀(hs:Hs) (N:Nat),T1 hs N .n (.sc v))\/∃w,NM.bnd m=[.str "refused",.str w]:=λm=>by
  unfold NM.bnd
  by_cases c:m>NM.GR\/m< -NM.GR
  ·rw[if_pos c];exact .inr ⟨_,rfl⟩
  ·rw[if_neg c];exact .inl ⟨_,rfl,rfl,λ_ _=> .n ⟨by omega,by omega⟩⟩
 have h6:k=0\/k=1\/k=2\/k=3\/k=4\/k=5:=by omega
 rcases h6 with rfl|rfl|rfl|rfl|rfl|rfl
 ·rcases hb (a+b)with⟨v,h1,h2,h3⟩|h
  ·exact .inl ⟨v,h1,h2,λhs N _ _=>h3 hs N⟩
  ·exact .inr h
 ·rcases hb (a - b)with⟨v,h1,h2,h3⟩|h
  ·exact .inl ⟨v,h1,h2,λhs N _ _=>h3 hs N⟩
  ·exact .inr h
 ·rcases hb (a*b)with⟨v,h1,h2,h3⟩|h
  ·exact .inl ⟨v,h1,h2,λhs N _ _=>h3 hs N⟩
  ·exact .inr h
 ·exact .inl ⟨_,rfl,rfl,λ_ _ _ _=> .t⟩
 ·exact .inl ⟨_,rfl,rfl,λ_ _ _ _=> .t⟩
 ·show(∃v,NM.quo a b=[.str "value",v]/\_)\/∃w,NM.quo a b=[.str "refused",.str w]
  unfold NM.quo
  by_cases c:b=0
  ·rw[if_pos c];exact .inr ⟨_,rfl⟩
  ·rw[if_neg c]
   refine .inl ⟨_,rfl,rfl,λhs N ha hb=> .n ?_⟩
   obtain⟨h1,h2⟩:=ha
   exact aoZ h1 h2 c
noncomputable def dfZ(hs:Hs)(N:Nat)(tys:List At)(i:Nat)(slK:List (Option Kd))(rk:Rk):Eo3->Prop
 | .fr d sl st=>1<=d/\∃stK slK',tys[i+d]? =some ⟨stK,slK'⟩/\All2 (T1 hs N) stK st/\All2 (SlK hs N) slK' sl
 | .new t st=>wt (.own rk)=1/\∃stK k,tys[i+1]? =some ⟨stK++ [k],slK⟩/\All2 (T1 hs N) stK st/\T1 hs (N+1) k t
 | .rf _=>True
theorem ET{α β:Type}{R:α->β->Prop}{as:List α}{a b:α}{cs:List β}(h:All2 R (as++ [a,b]) cs):∃ds x y,cs=ds++ [x,y]/\All2 R as ds/\R a x/\R b y:=by
 obtain⟨ds,es,e,h1,h2⟩:=E1 h
 cases h2 with
 |cons h3 h4=>
  cases h4 with
  |cons h5 h6=>cases h6;exact⟨ds,_,_,e,h1,h3,h5⟩
theorem bCZ{hs:Hs}{N:Nat}{told:Kd}{tys:List At}{i:Nat}{rk:Rk}{stK:List Kd}{slK:List (Option Kd)}{sl st:List Tv}(h:RowK hs told tys i (.own rk) ⟨stK,slK⟩)(hst:All2 (T1 hs N) stK st)(hsl:All2 (SlK hs N) slK sl):
  ∃eo,Et sl rk st eo/\dfZ hs N tys i slK rk eo:=by
 cases h with
 |pushN hb hn=>exact⟨_,.push rfl,le_refl _,_,_,hn,hst.app (.cons (.n hb) .nil),hsl⟩
 |pushT hn=>exact⟨_,.push rfl,le_refl _,_,_,hn,hst.app (.cons .t .nil),hsl⟩
 |non hp hn=>exact⟨_,.non,le_refl _,_,_,hn,hst.app (.cons (.nil hp) .nil),hsl⟩
 |load hj hn=>
  obtain⟨v,hv,hR⟩:=E3 hsl hj
  exact⟨_,.load hv,le_refl _,_,_,hn,hst.app (.cons hR .nil),hsl⟩
 |keep hj hn=>
  obtain⟨ds,d,rfl,h1,h2⟩:=C4 hst
  exact⟨_,.keep (by rw[<-hsl.len];exact hj),le_refl _,_,_,hn,h1,((CC hsl _).app (.cons (show SlK hs N (some _) d from h2) .nil)).app (MC.all2_drop hsl _)⟩
 |two hm hn=>
  obtain⟨ds,x,y,rfl,h1,h2,h3⟩:=ET hst
  cases h2 with
  |n ha=>
   cases h3 with
   |n hb=>
    rcases YZ hm _ _ with⟨v,e,hv,hK⟩|⟨w,e⟩
    ·exact⟨_,.twoV hm ha hb e hv,le_refl _,_,_,hn,h1.app (.cons (hK _ _ ha hb) .nil),hsl⟩
    ·exact⟨_,.twoR hm ha hb e,trivial⟩
   |nil hp=>cases hp
   |pair hp=>cases hp
  |nil hp=>cases hp
  |pair hp=>cases hp
 |cons hp hn=>
  obtain⟨ds,x,y,rfl,h1,h2,h3⟩:=ET hst
  have hl:=len_le h3
  exact⟨_,.cons,rfl,_,_,hn,h1,.pair hp (h2.mono (by omega)) (h3.mono (by omega)) (by omega)⟩
 |head hp hn=>
  obtain⟨ds,x,rfl,h1,h2⟩:=C4 hst
  cases h2 with
  |n _=>cases hp
  |t=>cases hp
  |nil _=>exact⟨_,.headN,trivial⟩
  |pair hp' ha hb _=>
   have e:_=_:=acZ hp hp'
   subst e
   exact⟨_,.head,le_refl _,_,_,hn,h1.app (.cons ha .nil),hsl⟩
  |fn _ _=>cases hp
 |tail hp hn=>
  obtain⟨ds,x,rfl,h1,h2⟩:=C4 hst
  cases h2 with
  |n _=>cases hp
  |t=>cases hp
  |nil _=>exact⟨_,.tailN,trivial⟩
  |pair hp' ha hb _=>exact⟨_,.tail,le_refl _,_,_,hn,h1.app (.cons hb .nil),hsl⟩
  |fn _ _=>cases hp
 |empty hp hn=>
  obtain⟨ds,x,rfl,h1,h2⟩:=C4 hst
  cases h2 with
  |n _=>cases hp
  |t=>cases hp
  |nil _=>exact⟨_,.emptyN,le_refl _,_,_,hn,h1.app (.cons .t .nil),hsl⟩
  |pair hp' ha hb _=>exact⟨_,.empty,le_refl _,_,_,hn,h1.app (.cons .t .nil),hsl⟩
  |fn _ _=>cases hp
 |not hn=>
  obtain⟨ds,x,rfl,h1,h2⟩:=C4 hst
  cases h2 with
  |t=>exact⟨_,.not,le_refl _,_,_,hn,h1.app (.cons .t .nil),hsl⟩
  |nil hp=>cases hp
  |pair hp=>cases hp
 |skip hn=>exact⟨_,.skip,le_add_right _ _,_,_,hn,hst,hsl⟩
 |«unless» h0 hm=>
  obtain⟨ds,x,rfl,h1,h2⟩:=C4 hst
  cases h2 with
  | @t b=>
   refine⟨_,.unless,le_add_right _ _,_,_, ?_,h1,hsl⟩
   cases b
   ·exact hm
   ·exact h0
  |nil hp=>cases hp
  |pair hp=>cases hp
 |close hb hl hn=>
  obtain⟨ds,es,rfl,h1,h2⟩:=E1 hst
  exact⟨_,.close h2.len.symm hl,rfl,_,_,hn,h1,(Ty.fn hb (a3Z h2)).mono (le_succ _)⟩
theorem WH{rows:List Rw}{i d:Nat}{r:Rw}(h:rows[i]? =some r)(hd:1<=d):((rows.drop (i+d)).map wt).sum+wt r<=((rows.drop i).map wt).sum:=by
 obtain⟨hi,rfl⟩:=List.getElem?_eq_some_iff.mp h
 have e:rows.drop i=rows[i]::rows.drop (i+1):=List.drop_eq_getElem_cons hi
 have e2:rows.drop (i+d)=(rows.drop (i+1)).drop (d - 1):=by rw[List.drop_drop];congr 1;omega
 rw[e,e2,map_cons,sum_cons,map_drop]
 have:∀(l:List Nat) (k:Nat),(l.drop k).sum<=l.sum:=λl k=>by
  have:=List.take_append_drop k l
  have h3:(l.take k).sum+(l.drop k).sum=l.sum:=by rw[<-sum_append,this]
  omega
 have:=this ((rows.drop (i+1)).map wt) (d - 1)
 omega
theorem byZ{hs:Hs}{N:Nat}{ps:List Kd}{xs:List Tv}(h:All2 (T1 hs N) ps xs):All2 (SlK hs N) (ps.map some) xs:=by
 induction h with
 |nil=>exact .nil
 |cons h1 _ ih=>exact .cons h1 ih
section
variable{hs:Hs}{bs:List Bk}{most:Nat}{mt:Kd}
noncomputable def bmZ(hs:Hs)(mt:Kd)(n:Nat)(T:Tm):Prop:=T.out≠none/\T.n<=n/\∀t,T.out=some (.value t)->T1 hs n mt t
theorem cCZ{bk:Bk}{f:Tf}{ps:List Kd}{told:Kd}{tys:List At}{N:Nat}{all st:List Kd}{sl:List (Option Kd)}(hb:bs[f.k]? =some bk)(h:FK hs N bk f ps told tys all st sl):∃r,YW bs f=some r/\bk.rows[f.at_]? =some r/\RowK hs told tys f.at_ r ⟨all,sl⟩:=by
 have hl:f.at_<bk.rows.length:=by rw[<-h.ok.len];exact(List.getElem?_eq_some_iff.mp h.at_).1
 have hr:=List.getElem?_eq_getElem hl
 obtain⟨a,ha,hk⟩:=h.ok.row _ _ hr
 rw[h.at_]at ha
 cases ha
 refine⟨_, ?_,hr,hk⟩
 unfold YW
 rw[hb]
 exact hr
theorem FT(hB:YC hs bs){b:Nat}{ps:List Kd}{k:Kd}(hh:hs[b]? =some (ps,k)){xs:List Tv}{N:Nat}(hx:All2 (T1 hs N) ps xs):∃bk tys,bs[b]? =some bk/\xs.length<=bk.sz/\bk.sz=ps.length+3/\FK hs N bk (Q7 b bk.sz xs) ps k tys [] [] (ps.map some++ [none,none,none])/\W6 bk (Q7 b bk.sz xs)<=8/\left bk (Q7 b bk.sz xs)<=80:=by
 obtain⟨bk,tys,hb,ok⟩:=hB b ps k hh
 have hl:=hx.len
 refine⟨bk,tys,hb,by rw[ok.sz];omega,ok.sz,⟨ok,ok.t0,.nil, ?_⟩, ?_, ?_⟩
 ·show All2 (SlK hs N) (ps.map some++ [none,none,none]) (xs++List.replicate (bk.sz - xs.length) (.sc .non))
  have e:bk.sz - xs.length=3:=by rw[ok.sz];omega
  rw[e]
  exact All2.app (byZ hx) (.cons trivial (.cons trivial (.cons trivial .nil)))
 ·exact ok.wt
 ·exact le_trans (Nat.sub_le _ _) ok.few
theorem ZI(hB:YC hs bs)(hm:most<=40){T:Tm}{M:Nat}(h:Run hs bs most mt T M):∃T',SM bs most T T'/\T'.n<=8*(T.c+1)/\((∃M',M'<M/\Run hs bs most mt T' M')\/bmZ hs mt (8*(T.c+1)) T'):=by
 obtain⟨fs,f,r,c,n,ps,bk,tys,k0,st,sl,R,W,rfl,hW,hb,hF,hc,hcm,hn,hM⟩:=h.ex
 obtain⟨row,hrT,hrow,hK⟩:=cCZ hb hF
 have hlt:f.at_<bk.rows.length:=(List.getElem?_eq_some_iff.mp hrow).1
 have hn0:n<=8*(c+1):=le_trans (le_trans (le_add_right _ _) (le_add_right _ _)) hn
 have stp:∀ {T':Tm},ActT bs most fs f r c n row T'->SM bs most ⟨fs++ [f],none,r,c,n⟩ T':=λha=>⟨fs,f,r,c,n,row,rfl,hrT,ha⟩
 have nx:∀d,1<=d->W6 bk ⟨f.k,f.at_+d,[],[]⟩+wt row<=W6 bk f:=λd hd=>WH hrow hd
 have lx:∀d,1<=d->left bk ⟨f.k,f.at_+d,[],[]⟩+1<=left bk f:=λd hd=>by
  show bk.rows.length - (f.at_+d)+1<=bk.rows.length - f.at_
  omega
 cases row with
 |own rk=>
  obtain⟨eo,he,ho⟩:=bCZ hK hF.st hF.sl
  cases eo with
  |fr d sl' st'=>
   obtain⟨hd,stK,slK,ht,h1,h2⟩:=ho
   refine⟨_,stp (.own he), ?_,.inl ⟨R+left bk ⟨f.k,f.at_+d,[],[]⟩+(most - c)*81, ?_,⟨fs,_,_,c,n,ps,bk,tys,k0,stK,slK,R,W,rfl,hW,hb,⟨hF.ok,ht,h1,h2⟩,hc,hcm, ?_,le_refl _⟩⟩⟩
   ·exact hn0
   ·have:=lx d hd;omega
   ·have:=nx d hd
    show n+W+W6 bk ⟨f.k,f.at_+d,[],[]⟩<=_
    omega
  |new t st'=>
   obtain⟨hw,stK,k,ht,h1,h2⟩:=ho
   have hx:=nx 1 (le_refl _)
   rw[hw]at hx
   refine⟨_,stp (.new he), ?_,.inl ⟨R+left bk ⟨f.k,f.at_+1,[],[]⟩+(most - c)*81, ?_,⟨fs,_,_,c,n+1,ps,bk,tys,k0,stK++ [k],sl,R,W,rfl,hW.mono (le_succ _),hb,⟨hF.ok,ht,(IG (le_succ _) h1).app (.cons h2 .nil),hF.sl.imp λ_ _ y=>MJ (le_succ _) y⟩,hc,hcm, ?_,le_refl _⟩⟩⟩
   ·show n+1<=8*(c+1);omega
   ·have:=lx 1 (le_refl _);omega
   ·show n+1+W+W6 bk ⟨f.k,f.at_+1,[],[]⟩<=_
    omega
  |rf w=>exact⟨_,stp (.rf he),hn0,.inr ⟨(λz=>nomatch z),hn0,λt z=>(nomatch z)⟩⟩
 |back=>
  cases hK with
  | @back st0=>
   obtain⟨ds,v,e,h1,h2⟩:=C4 hF.st
   cases hW with
   |nil=>exact⟨_,stp (.last rfl e),hn0,.inr ⟨(λz=>nomatch z),hn0,λt z=>by cases z;exact h2.mono hn0⟩⟩
   | @snoc gs g k1 _ ps1 bk1 tys1 st1 sl1 R1 W1 hW1 hb1 hF1=>
    refine⟨_,stp (.back rfl e), ?_,.inl ⟨R1+left bk1 g+(most - c)*81, ?_,⟨gs,_,_,c,n,ps1,bk1,tys1,k1,st1++ [k0],sl1,R1,W1,rfl,hW1,hb1,⟨hF1.ok,hF1.at_,hF1.st.app (.cons h2 .nil),hF1.sl⟩, ?_,hcm, ?_,le_refl _⟩⟩⟩
    ·exact hn0
    ·have:1<=left bk f:=by show 1<=bk.rows.length - f.at_;omega
     omega
    ·rw[length_append]at hc;simp at hc;omega
    ·show n+W1+W6 bk1 g<=_
     omega
 |call b m=>
  by_cases hd:most<=c
  ·exact⟨_,stp (.dry (.inl ⟨b,m,rfl⟩) hd),hn0,.inr ⟨(λz=>nomatch z),hn0,λt z=>(nomatch z)⟩⟩
  cases hK with
  | @call _ ps' k st0 _ hh ht=>
   obtain⟨ds,xs,e,h1,h2⟩:=E1 hF.st
   obtain⟨bk',tys',hb',hx1,hx2,hF',hw',hl'⟩:=FT hB hh h2
   have el:=h2.len
   have hact:ActT bs most fs f r c n (.call b ps'.length) ⟨fs++ [⟨f.k,f.at_+1,f.sl,ds⟩]++ [Q7 b bk'.sz xs],none,r+1,c+1,n⟩:=by
    rw[el]
    exact .call (by omega) (by omega) e hb' hx1
   refine⟨_,stp hact, ?_,.inl ⟨(R+left bk ⟨f.k,f.at_+1,f.sl,ds⟩)+left bk' (Q7 b bk'.sz xs)+(most - (c+1))*81, ?_,⟨fs++ [⟨f.k,f.at_+1,f.sl,ds⟩],_,_,c+1,n,ps',bk',tys',k,[],_,_,_,rfl,.snoc hW hb ⟨hF.ok,ht,h1,hF.sl⟩,hb',hF', ?_,by omega, ?_,le_refl _⟩⟩⟩
   ·exact hn0
   ·have h3:=lx 1 (le_refl _)
    have h4:(most - c)*81=(most - (c+1))*81+81:=by
     have:most - c=most - (c+1)+1:=by omega
     rw[this,Nat.add_mul]
    show(R+left bk ⟨f.k,f.at_+1,[],[]⟩)+left bk' _+_<M
    omega
   ·rw[length_append];simp;omega
   ·have h3:=nx 1 (le_refl _)
    show n+(W+W6 bk ⟨f.k,f.at_+1,[],[]⟩)+W6 bk' _<=8*(c+1+1)
    omega
 |apply=>
  by_cases hd:most<=c
  ·exact⟨_,stp (.dry (.inr rfl) hd),hn0,.inr ⟨(λz=>nomatch z),hn0,λt z=>(nomatch z)⟩⟩
  cases hK with
  | @apply k st0 _ ht=>
   obtain⟨ds,v,x,e,h1,hv,hx⟩:=ET hF.st
   cases hv with
   | @fn b xs ps' _ hh hxs=>
    obtain⟨ts,rfl,hts⟩:=a9Z hxs
    have h2:All2 (T1 hs n) (ps'++ [.n]) (ts++ [x]):=hts.app (.cons hx .nil)
    obtain⟨bk',tys',hb',hx1,hx2,hF',hw',hl'⟩:=FT hB hh h2
    have hact:ActT bs most fs f r c n .apply ⟨fs++ [⟨f.k,f.at_+1,f.sl,ds⟩]++ [Q7 b bk'.sz (ts++ [x])],none,r+1,c+1,n⟩:=
     .apply (by omega) (by omega) e hb' (by rw[length_append]at hx1;exact hx1)
    refine⟨_,stp hact, ?_,.inl ⟨(R+left bk ⟨f.k,f.at_+1,f.sl,ds⟩)+left bk' (Q7 b bk'.sz (ts++ [x]))+(most - (c+1))*81, ?_,⟨fs++ [⟨f.k,f.at_+1,f.sl,ds⟩],_,_,c+1,n,_,bk',tys',k,[],_,_,_,rfl,.snoc hW hb ⟨hF.ok,ht,h1,hF.sl⟩,hb',hF', ?_,by omega, ?_,le_refl _⟩⟩⟩
    ·exact hn0
    ·have h3:=lx 1 (le_refl _)
     have h4:(most - c)*81=(most - (c+1))*81+81:=by
      have:most - c=most - (c+1)+1:=by omega
      rw[this,Nat.add_mul]
     show(R+left bk ⟨f.k,f.at_+1,[],[]⟩)+left bk' _+_<M
     omega
    ·rw[length_append];simp;omega
    ·have h3:=nx 1 (le_refl _)
     show n+(W+W6 bk ⟨f.k,f.at_+1,[],[]⟩)+W6 bk' _<=8*(c+1+1)
     omega
   |nil hp=>cases hp
   |pair hp=>cases hp
theorem bzZ{N:Nat}{fs:List Tf}{k:Kd}{R W:Nat}(h:Wt hs bs N mt fs k R W):(∀f∈fs,f.sl.length<=20/\f.st.length<=80)/\((fs.flatMap λf=>f.sl++f.st).length<=100*fs.length):=by
 induction h with
 |nil=>exact⟨λf hf=>(nomatch hf),le_refl _⟩
 | @snoc fs f k0 k ps bk tys st sl R W hW hb hF ih=>
  have hm:=mem_of_getElem? hF.at_
  have h1:=hF.ok.st _ hm
  have h2:=hF.ok.sl _ hm
  have e1:=hF.st.len
  have e2:=hF.sl.len
  rw[length_append]at h1
  have h3:f.st.length<=80:=by rw[<-e1];omega
  have h4:f.sl.length<=20:=by rw[<-e2];exact h2
  refine⟨λg hg=> ?_, ?_⟩
  ·rcases mem_append.mp hg with hg|hg
   ·exact ih.1 g hg
   ·rw[sZ hg];exact⟨h4,h3⟩
  ·rw[List.flatMap_append,length_append,length_append,List.flatMap_singleton,length_append]
   have:=ih.2
   simp only[length_singleton]
   omega
theorem run_start(hB:YC hs bs){main m:Nat}(hh:hs[main]? =some (List.replicate m .n,mt)){ns:List Int}(hl:ns.length=m)(hn:∀i∈ns,Bd i):∃bk,bs[main]? =some bk/\bk.sz=m+3/\Run hs bs most mt ⟨[Q7 main bk.sz (ns.map λi=> .sc (.int i))],none,0,0,0⟩ (80+most*81):=by
 have hx:All2 (T1 hs 0) (List.replicate m .n) (ns.map λi=>Tv.sc (.int i)):=by
  clear hh
  subst hl
  induction ns with
  |nil=>exact .nil
  |cons i ns ih=>exact .cons (.n (hn i (mem_cons_self ..))) (ih λj hj=>hn j (mem_cons_of_mem _ hj))
 obtain⟨bk,tys,hb,h1,h2,hF,hw,hlf⟩:=FT hB hh hx
 rw[length_replicate]at h2
 exact⟨bk,hb,h2,⟨[],_,0,0,0,_,bk,tys,mt,[],_,0,0,rfl,.nil,hb,hF,le_refl _,zero_le _,by omega,by omega⟩⟩
end
theorem RowK.more{hs:Hs}{told:Kd}{tys tys':List At}{i:Nat}{r:Rw}{a:At}(h:RowK hs told tys i r a)(m:∀(j:Nat) x,tys[j]? =some x->tys'[j]? =some x):RowK hs told tys' i r a:=by
 cases h with
 |pushN h1 h2=>exact .pushN h1 (m _ _ h2)
 |pushT h2=>exact .pushT (m _ _ h2)
 |non h1 h2=>exact .non h1 (m _ _ h2)
 |load h1 h2=>exact .load h1 (m _ _ h2)
 |keep h1 h2=>exact .keep h1 (m _ _ h2)
 |two h1 h2=>exact .two h1 (m _ _ h2)
 |cons h1 h2=>exact .cons h1 (m _ _ h2)
 |head h1 h2=>exact .head h1 (m _ _ h2)
 |tail h1 h2=>exact .tail h1 (m _ _ h2)
 |empty h1 h2=>exact .empty h1 (m _ _ h2)
 |not h2=>exact .not (m _ _ h2)
 |skip h2=>exact .skip (m _ _ h2)
 |«unless» h1 h2=>exact .unless (m _ _ h1) (m _ _ h2)
 |close h1 h2 h3=>exact .close h1 h2 (m _ _ h3)
 |call h1 h2=>exact .call h1 (m _ _ h2)
 |apply h2=>exact .apply (m _ _ h2)
 |back=>exact .back
structure GOk (hs:Hs) (ps:List Kd) (rows:List Rw) (st:List Kd) (sl:List (Option Kd)) (tys:List At):Prop where
 t0:(tys++ [⟨st,sl⟩])[0]? =some ⟨[],ps.map some++ [none,none,none]⟩
 len:tys.length=rows.length
 row:∀told i r,rows[i]? =some r->∃a,tys[i]? =some a/\RowK hs told (tys++ [⟨st,sl⟩]) i r a
 hst:∀a∈tys++ [⟨st,sl⟩],a.st.length<=rows.length
 hsl:∀a∈tys++ [⟨st,sl⟩],a.sl.length=ps.length+3
theorem BD{α:Type}{xs ys:List α}{j:Nat}{x:α}(h:xs[j]? =some x):(xs++ys)[j]? =some x:=by
 rw[getElem?_append_left (List.getElem?_eq_some_iff.mp h).1];exact h
theorem V6{α:Type}{xs:List α}{x:α}{n:Nat}(h:xs.length=n):(xs++ [x])[n]? =some x:=by subst h;simp
theorem WA(hs:Hs)(ps:List Kd):GOk hs ps [] [] (ps.map some++ [none,none,none]) []:=
 ⟨rfl,rfl,λtold i r h=>by simp at h,λa ha=>by rw[sZ ha];exact le_refl _,λa ha=>by rw[sZ ha];simp⟩
theorem GOk.one{hs:Hs}{ps:List Kd}{rows:List Rw}{st st':List Kd}{sl sl':List (Option Kd)}{tys:List At}(h:GOk hs ps rows st sl tys){r:Rw}(hr:∀(told:Kd) (ty:List At) (i:Nat),ty[i+1]? =some ⟨st',sl'⟩->RowK hs told ty i r ⟨st,sl⟩)(hst:st'.length<=st.length+1)(hsl:sl'.length=sl.length):
  GOk hs ps (rows++ [r]) st' sl' (tys++ [⟨st,sl⟩]):=by
 have hl:=h.len
 have hcur:(⟨st,sl⟩:At)∈tys++ [⟨st,sl⟩]:=mem_append_right _ (mem_singleton.mpr rfl)
 refine⟨BD h.t0,by simp[hl],λtold i r' hi=> ?_,λa ha=> ?_,λa ha=> ?_⟩
 ·rcases lt_or_ge i rows.length with hlt|hge
  ·rw[getElem?_append_left hlt]at hi
   obtain⟨a,h1,h2⟩:=h.row told i r' hi
   exact⟨a,BD h1,h2.more λj x hx=>BD hx⟩
  ·have hi':i=rows.length:=by
    have:=(List.getElem?_eq_some_iff.mp hi).1
    simp at this;omega
   subst hi'
   rw[V6 rfl]at hi
   cases hi
   exact⟨_,V6 hl,hr told _ _ (V6 (by simp[hl]))⟩
 ·rw[length_append,length_singleton]
  rcases mem_append.mp ha with ha|ha
  ·exact le_succ_of_le (h.hst a ha)
  ·rw[sZ ha]
   have:=h.hst _ hcur
   simp only at this⊢
   omega
 ·rcases mem_append.mp ha with ha|ha
  ·exact h.hsl a ha
  ·rw[sZ ha]
   have:=h.hsl _ hcur
   simp only at this⊢
   omega
noncomputable def DD(hs:Hs)(k:Kd)(sl:List (Option Kd))(r:Rw):Prop:=wt r=0/\∀(told:Kd) (ty:List At) (i:Nat) (st:List Kd),ty[i+1]? =some ⟨st++ [k],sl⟩->RowK hs told ty i r ⟨st,sl⟩
theorem GOk.push{hs:Hs}{ps:List Kd}{rows:List Rw}{st:List Kd}{sl:List (Option Kd)}{tys:List At}(h:GOk hs ps rows st sl tys){k:Kd}{r:Rw}(hr:DD hs k sl r):GOk hs ps (rows++ [r]) (st++ [k]) sl (tys++ [⟨st,sl⟩]):=
 h.one (λtold ty i hi=>hr.2 told ty i st hi) (by simp) rfl
theorem GOk.branch{hs:Hs}{ps:List Kd}{rows:List Rw}{st:List Kd}{sl:List (Option Kd)}{tys:List At}(h:GOk hs ps rows (st++ [.t]) sl tys){k:Kd}{r1 r2:Rw}(h1:DD hs k sl r1)(h2:DD hs k sl r2):
  ∃tys',GOk hs ps (rows++ [.own (.unless 2),r1,.own (.skip 1),r2]) (st++ [k]) sl tys':=by
 have hl:=h.len
 have hcur:(⟨st++ [.t],sl⟩:At)∈tys++ [⟨st++ [.t],sl⟩]:=mem_append_right _ (mem_singleton.mpr rfl)
 have hcs:=h.hst _ hcur
 have hcl:=h.hsl _ hcur
 simp only[length_append,length_singleton]at hcs hcl
 have ge:∀(x:List At) (j:Nat),(tys++x)[rows.length+j]? =x[j]? :=λx j=>by
  rw[<-hl,getElem?_append_right (le_add_right _ _),Nat.add_sub_cancel_left]
 have gr:∀(x:List Rw) (j:Nat),(rows++x)[rows.length+j]? =x[j]? :=λx j=>by
  rw[getElem?_append_right (le_add_right _ _),Nat.add_sub_cancel_left]
 refine⟨tys++ [⟨st++ [.t],sl⟩,⟨st,sl⟩,⟨st++ [k],sl⟩,⟨st,sl⟩], ?_,by simp[hl],λtold i r hi=> ?_,λa ha=> ?_,λa ha=> ?_⟩
 ·have:=h.t0
  rw[List.append_assoc]
  cases tys with
  |nil=>exact this
  |cons x tys=>exact this
 ·rcases lt_or_ge i rows.length with hlt|hge
  ·rw[getElem?_append_left hlt]at hi
   obtain⟨a,h3,h4⟩:=h.row told i r hi
   refine⟨a,BD h3,h4.more λj x hx=> ?_⟩
   rw[List.append_assoc]
   rcases lt_or_ge j tys.length with hj|hj
   ·rw[getElem?_append_left hj]at hx⊢
    exact hx
   ·have:j=tys.length:=by
     have:=(List.getElem?_eq_some_iff.mp hx).1
     simp at this;omega
    subst this
    rw[V6 rfl]at hx
    cases hx
    rw[getElem?_append_right (le_refl _),Nat.sub_self]
    rfl
  ·obtain⟨d,rfl⟩:=Nat.exists_eq_add_of_le hge
   rw[gr]at hi
   have e:∀j,(tys++ [⟨st++ [.t],sl⟩,⟨st,sl⟩,⟨st++ [k],sl⟩,⟨st,sl⟩]++ [(⟨st++ [k],sl⟩:At)])[rows.length+j]? =([⟨st++ [.t],sl⟩,⟨st,sl⟩,⟨st++ [k],sl⟩,⟨st,sl⟩,⟨st++ [k],sl⟩]:List At)[j]? :=λj=>by
    rw[List.append_assoc];exact ge _ j
   match d,hi with
   |0,hi=>
    cases hi
    exact⟨_,by rw[ge];rfl,.unless (by rw[Nat.add_assoc];exact e 1) (by rw[Nat.add_assoc];exact e 3)⟩
   |1,hi=>
    cases hi
    exact⟨_,by rw[ge];rfl,h1.2 _ _ _ _ (e 2)⟩
   |2,hi=>
    cases hi
    exact⟨_,by rw[ge];rfl,.skip (by rw[Nat.add_assoc];exact e 4)⟩
   |3,hi=>
    cases hi
    exact⟨_,by rw[ge];rfl,h2.2 _ _ _ _ (e 4)⟩
   |d+4,hi=>simp at hi
 ·simp only[length_append,length_cons,length_nil]
  rw[List.append_assoc]at ha
  rcases mem_append.mp ha with ha|ha
  ·have:=h.hst a (mem_append_left _ ha);omega
  ·simp only[mem_append,mem_cons,not_mem_nil,or_false]at ha
   rcases ha with(rfl|rfl|rfl|rfl)|rfl<;>simp only[length_append,length_singleton]<;>omega
 ·rw[List.append_assoc]at ha
  rcases mem_append.mp ha with ha|ha
  ·exact h.hsl a (mem_append_left _ ha)
  ·simp only[mem_append,mem_cons,not_mem_nil,or_false]at ha
   rcases ha with(rfl|rfl|rfl|rfl)|rfl<;>exact hcl
theorem GOk.block{hs:Hs}{ps:List Kd}{rows:List Rw}{st:List Kd}{sl:List (Option Kd)}{tys:List At}{told:Kd}{b:Nat}(h:GOk hs ps rows (st++ [told]) sl tys)(hh:hs[b]? =some (ps,told))(hp:ps.length<=10)(hr:rows.length<80)(hw:(rows.map wt).sum<=8):
  BkOk hs b ⟨ps.length,ps.length+3,rows++ [.back]⟩ ps told (tys++ [⟨st++ [told],sl⟩]):=by
 have hl:=h.len
 refine⟨hh,rfl,h.t0,by simp[hl],λi r hi=> ?_,by simp;omega, ?_,λa ha=> ?_,λa ha=> ?_⟩
 ·have hi:(rows++ [Rw.back])[i]? =some r:=hi
  rcases lt_or_ge i rows.length with hlt|hge
  ·rw[getElem?_append_left hlt]at hi
   obtain⟨a,h1,h2⟩:=h.row told i r hi
   exact⟨a,BD h1,h2⟩
  ·have hi':i=rows.length:=by
    have:=(List.getElem?_eq_some_iff.mp hi).1
    simp at this;omega
   subst hi'
   rw[V6 rfl]at hi
   cases hi
   exact⟨_,V6 hl,.back⟩
 ·show((rows++ [Rw.back]).map wt).sum<=8
  rw[map_append,sum_append]
  exact hw
 ·exact le_of_lt (lt_of_le_of_lt (h.hst a ha) hr)
 ·rw[h.hsl a ha];omega
noncomputable def Kd.cs:Kd->List Nat
 | .n=> [110]| .t=> [116]| .l=> [108]| .L=> [76]| .F=> [70]| .fn k=>102::k.cs
noncomputable abbrev Kd.tx(k:Kd):Str:=⟨k.cs.toArray⟩
theorem b6Z:∀ {a b:Kd},a.cs=b.cs->a=b:=by
 intro a
 induction a with
 |fn k ih=>
  intro b h
  cases b with
  |fn k'=>have:k.cs=k'.cs:=by simpa [Kd.cs]using h
          rw[ih this]
  |_=>simp[Kd.cs]at h
 |_=>intro b h;cases b<;>simp[Kd.cs]at h<;>rfl
theorem BZ{a b:Kd}(h:a.tx=b.tx):a=b:=b6Z (by have h1:a.cs.toArray=b.cs.toArray:=congrArg Str.cps h;simpa using h1)
noncomputable abbrev kv(k:Kd):V:=.str k.tx
noncomputable def ov:Option Kd->V
 |none=> .non
 |some k=>kv k
theorem KE{a b:Kd}(h:kv a=kv b):a=b:=BZ (by injection h)
theorem ov_kv{o:Option Kd}{k:Kd}:ov o=kv k↔o=some k:=by
 cases o with
 |none=>exact⟨λz=>(nomatch z),λz=>(nomatch z)⟩
 |some a=>exact⟨λz=>by rw[KE z],λz=>by cases z;rfl⟩
theorem aBZ{as bs:List Kd}(h:as.map kv=bs.map kv):as=bs:=by
 induction as generalizing bs with
 |nil=>cases bs with
  |nil=>rfl
  |cons _ _=>cases h
 |cons a as ih=>cases bs with
  |nil=>cases h
  |cons b bs=>
   rw[map_cons,map_cons]at h
   injection h with h1 h2
   rw[KE h1,ih h2]
theorem dHZ:("n":Str)=Kd.n.tx:=by decide +kernel
theorem dNZ:("t":Str)=Kd.t.tx:=by decide +kernel
theorem d1Z:("l":Str)=Kd.l.tx:=by decide +kernel
theorem dQZ:("L":Str)=Kd.L.tx:=by decide +kernel
theorem d2Z:("F":Str)=Kd.F.tx:=by decide +kernel
theorem dpZ:("fn":Str)=(Kd.fn .n).tx:=by decide +kernel
structure SA (H0 H:Hp) (d a b c:Addr) (rs:List V) (rows:List Rw) (st:List Kd) (sl:List (Option Kd)):Prop where
 sm:Same H0 H
 hd:H d=some (.dK [(.inr "rows",.ref a),(.inr "stack",.ref b),(.inr "slots",.ref c)])
 ha:H a=some (.lst rs)
 hr:All2 (RwAt H) rows rs
 hb:H b=some (.lst (st.map kv))
 hc:H c=some (.lst (sl.map ov))
 nd:H0 d=none
 na:H0 a=none
 nb:H0 b=none
 nc:H0 c=none
 ab:a≠b
 ac:a≠c
 bc:b≠c
section
variable{H0 H H':Hp}{d a b c:Addr}{rs:List V}{rows:List Rw}{st st':List Kd}{sl sl':List (Option Kd)}
theorem SA.same(h:SA H0 H d a b c rs rows st sl)(s:Same H H'):SA H0 H' d a b c rs rows st sl:=
 ⟨h.sm.trans s,s _ _ h.hd,s _ _ h.ha,h.hr.imp λ_ _ z=>z.mo (B6 s),s _ _ h.hb,s _ _ h.hc,h.nd,h.na,h.nb,h.nc,h.ab,h.ac,h.bc⟩
theorem Y1(s:Same H0 H){x:Addr}(n:H0 x=none)(o:HO):Same H0 (upd H x o):=λy ob e=>by
 rw[B0 (C6 e n)];exact s _ _ e
theorem JR{x:Addr}{xs ys:List V}(e:H x=some (.lst xs)):Mo H (upd H x (.lst ys)):=λy zs h=>by
 rw[B0 λz=>by rw[z,e]at h;cases h];exact h
theorem SA.da(h:SA H0 H d a b c rs rows st sl):d≠a/\d≠b/\d≠c:=by
 refine⟨λz=> ?_,λz=> ?_,λz=> ?_⟩<;>have e:=h.hd<;>rw[z]at e
 ·rw[h.ha]at e;cases e
 ·rw[h.hb]at e;cases e
 ·rw[h.hc]at e;cases e
theorem SA.row(h:SA H0 H d a b c rs rows st sl){r:Rw}{u:V}(hr:RwAt H r u):SA H0 (upd H a (.lst (rs++ [u]))) d a b c (rs++ [u]) (rows++ [r]) st sl:=by
 have m:Mo H (upd H a (.lst (rs++ [u]))):=JR h.ha
 obtain⟨d1,d2,d3⟩:=h.da
 exact⟨Y1 h.sm h.na _,by rw[B0 d1];exact h.hd,A2,(h.hr.imp λ_ _ z=>z.mo m).app (.cons (hr.mo m) .nil),by rw[B0 h.ab.symm];exact h.hb,by rw[B0 h.ac.symm];exact h.hc,h.nd,h.na,h.nb,h.nc,h.ab,h.ac,h.bc⟩
theorem SA.stk(h:SA H0 H d a b c rs rows st sl):SA H0 (upd H b (.lst (st'.map kv))) d a b c rs rows st' sl:=by
 have m:Mo H (upd H b (.lst (st'.map kv))):=JR h.hb
 obtain⟨d1,d2,d3⟩:=h.da
 exact⟨Y1 h.sm h.nb _,by rw[B0 d2];exact h.hd,by rw[B0 h.ab];exact h.ha,h.hr.imp λ_ _ z=>z.mo m,A2,by rw[B0 h.bc.symm];exact h.hc,h.nd,h.na,h.nb,h.nc,h.ab,h.ac,h.bc⟩
theorem SA.slt(h:SA H0 H d a b c rs rows st sl):SA H0 (upd H c (.lst (sl'.map ov))) d a b c rs rows st sl':=by
 have m:Mo H (upd H c (.lst (sl'.map ov))):=JR h.hc
 obtain⟨d1,d2,d3⟩:=h.da
 exact⟨Y1 h.sm h.nc _,by rw[B0 d3];exact h.hd,by rw[B0 h.ac];exact h.ha,h.hr.imp λ_ _ z=>z.mo m,by rw[B0 h.bc];exact h.hb,A2,h.nd,h.na,h.nb,h.nc,h.ab,h.ac,h.bc⟩
theorem SA.put(h:SA H0 H d a b c rs rows st sl){b':Addr}(hb:H b'=none):SA H0 (upd (upd H b' (.lst (st'.map kv))) d (.dK [(.inr "rows",.ref a),(.inr "stack",.ref b'),(.inr "slots",.ref c)])) d a b' c rs rows st' sl:=by
 have s:=A3 hb (.lst (st'.map kv))
 have h':=h.same s
 obtain⟨d1,d2,d3⟩:=h.da
 have n1:b'≠d:=λz=>by rw[z,h.hd]at hb;cases hb
 have n2:b'≠a:=λz=>by rw[z,h.ha]at hb;cases hb
 have n3:b'≠c:=λz=>by rw[z,h.hc]at hb;cases hb
 have m:Mo (upd H b' (.lst (st'.map kv))) (upd (upd H b' (.lst (st'.map kv))) d (.dK [(.inr "rows",.ref a),(.inr "stack",.ref b'),(.inr "slots",.ref c)])):=λy zs e=>by
  rw[B0 λz=>by rw[z,h'.hd]at e;cases e];exact e
 have nb0:H0 b'=none:=by
  cases e:H0 b' with
  |none=>rfl
  |some o=>rw[h.sm _ _ e]at hb;cases hb
 exact⟨Y1 h'.sm h.nd _,A2,by rw[B0 d1.symm];exact h'.ha,h'.hr.imp λ_ _ z=>z.mo m,by rw[B0 n1];exact A2,by rw[B0 d3.symm];exact h'.hc,h.nd,h.na,nb0,h.nc,n2.symm,h.ac,n3⟩
theorem SA.gr(h:SA H0 H d a b c rs rows st sl):DGet H d (.str "rows") (some (.ref a)):=DGet.k (k:=.inr "rows") h.hd
theorem SA.gb(h:SA H0 H d a b c rs rows st sl):DGet H d (.str "stack") (some (.ref b)):=DGet.k (k:=.inr "stack") h.hd
theorem SA.gc(h:SA H0 H d a b c rs rows st sl):DGet H d (.str "slots") (some (.ref c)):=DGet.k (k:=.inr "slots") h.hd
end
noncomputable def StA(H0 H:Hp)(d:Addr)(rows:List Rw)(st:List Kd)(sl:List (Option Kd)):Prop:=∃a b c rs,SA H0 H d a b c rs rows st sl
end PG
namespace K67
open PySem L2 CL SW MC MT
open BV hiding ifT ifF NoG top
seal PE PT PW PA PS PSs PTs PI PG PGs PO
noncomputable abbrev s_law_cell_at:Stmt:=CL.top 33
noncomputable abbrev s_law_number:Stmt:=CL.top 35
noncomputable abbrev HD:List Str:=["_law_script","_law_k"]
theorem sc_law_cell_at:FnScope HD awZ (A9 s_law_cell_at):=fS
noncomputable abbrev KL:List Str:=["_law_cell"]
theorem sc_law_number:FnScope KL q4L (A9 s_law_number):=fS
theorem p40:(10:Int)^((40:Int).toNat)=NM.GR:=by decide +kernel
noncomputable def P3(ns:List Int)(k:Int):Int:=(ns[k.toNat]?).getD 0
theorem lg{b:Int}(h0:0<b)(h1:b<2^60):b≠0/\b.natAbs.log2<9000:=⟨by omega,by
 have:b.natAbs≠0:=by omega
 have:=(Nat.log2_lt this).mpr (show b.natAbs<2^60 by omega)
 omega⟩
theorem ml{a b:Int}(h: -(2^63)<a/\a<2^63):IntMulOk a b:=IntMulOk.of_left (intBits_le_64 (by omega) (by omega))
theorem mr{a b:Int}(h: -(2^63)<b/\b<2^63):IntMulOk a b:=IntMulOk.of_right (intBits_le_64 (by omega) (by omega))
section
variable{P:Program}{w:World}{K:FZ}{mg:Str->Option Value}{base:Heap}{C f:Addr}{fd:FuncData}{mf:Str->Addr}{md:Str->FuncData}
inductive spCellVW(K:FZ)(vs:List V)(H:Hp)(Q:VK):Prop
 |mk:∀(a:Addr) (ns:List Int) (k:Int),(vs=[.ref a,.int k])->(SqL K H a (ns.map V.int))->(0<=k)->(Q (.int (P3 ns k)) H)->spCellVW K vs H Q
noncomputable def BB(K:FZ):Sp:=λvs H Q _=>spCellVW K vs H Q
theorem ok_law_cell_at(F:Fun K "_law_cell_at" "_law_cell_at" s_law_cell_at f fd)(B:NoG mg):FnOk P w K mg base CX0 1 f fd awZ (BB K):=by
 refine F.ok sc_law_cell_at (λvs H Q E h=> ?_) (λcdv A outer s H vs Q E hr h=> ?_)
 ·obtain⟨a,ns,k,rfl,_⟩:=h
  rfl
 obtain⟨a,ns,k,rfl,hS,hk,q⟩:=h
 have nd:=sc_law_cell_at.nd
 refine⟨_,(A6 (C8 (B2 SJ (pv 1) (B9 (J9 (K:=K)) rfl B.len_ E8 (A0 (pv 0) A4)) rfl) (A7 (B5 (ixE K w (pv 0) (pv 1)))) C1)
   (A7 (B5 A5))), ?_⟩
 refine⟨_,rfl,_,rfl,_,_,rfl,.inl ⟨_,hS,rfl⟩,_,_,rfl,rfl,_,rfl,GY (λc=> ?_) (λc=> ?_)⟩
 ·have c':k<((ns.map V.int).length:Nat):=of_decide_eq_true c
  rw[length_map]at c'
  have hk':k.toNat<ns.length:=by omega
  have ev:P3 ns k=ns[k.toNat]:=by unfold P3;rw[List.getElem?_eq_getElem hk'];rfl
  have e:atI (ns.map V.int) ((k.toNat:Nat):Int)=some (.int ns[k.toNat]):=C9 (by rw[getElem?_map,List.getElem?_eq_getElem hk'];rfl)
  have ek:((k.toNat:Nat):Int)=k:=by omega
  rw[ek]at e
  rw[ev]at q
  exact⟨_,rfl,_,rfl,.inl ⟨_,_,_,_,rfl,rfl,hS,e,q⟩⟩
 ·have c':¬k<((ns.map V.int).length:Nat):=λz=>c (decide_eq_true z)
  rw[length_map]at c'
  have ev:P3 ns k=0:=by unfold P3;rw[List.getElem?_eq_none (by omega)];rfl
  rw[ev]at q
  exact q
inductive spNumBW (vs:List V) (H:Hp) (Q:VK):Prop
 |mk:∀n:Int,(vs=[.int n])->(∀m:Int,Bd m->Q (.int m) H)->spNumBW vs H Q
noncomputable def spNumB:Sp:=λvs H Q _=>spNumBW vs H Q
theorem ok_law_number(F:Fun K "_law_number" "_law_number" s_law_number f fd):FnOk P w K mg base CX0 1 f fd q4L spNumB:=by
 refine F.ok sc_law_number (λvs H Q E h=> ?_) (λcdv A outer s H vs Q E hr h=> ?_)
 ·obtain⟨n,rfl,_⟩:=h
  rfl
 obtain⟨n,rfl,q⟩:=h
 have nd:=sc_law_number.nd
 have hu:=hr.units0
 have hG:=GRe
 have pw:(0:Int)<(10:Int)^((40:Int).toNat)+1:=by rw[p40];decide
 refine⟨_,(A6 (C8 (B2 (kEq (K:=K) hu) (B4 D7 (pv 0) A5) A5 rfl) (A7 (B5 (B4 EE (B4 P2 A5 (B4 EE A5 (B4 D7 (B4 D1 (pv 0) A5) A5))) (B4 P2 (B4 WJ A5 A5) (B4 D7 (B4 D1 (pv 0) A5) A5))))) C1)
   (A6 (C8 (B2 (kEq (K:=K) hu) (B4 D7 (pv 0) A5) A5 rfl) (A7 (B5 (B4 D7 (B4 EE (pv 0) A5) (B4 aWZ (B4 WJ A5 A5) A5)))) C1)
   (A7 (B5 (B4 P2 (B4 D7 (B4 D1 (pv 0) A5) A5) A5))))), ?_⟩
 refine⟨_,rfl,_,_,rfl,rfl,(by decide:(0:Int)<7),.inl ⟨rfl,_,rfl,GY (λe=> ?_) (λe=> ?_)⟩⟩
 ·refine⟨_,rfl,_,_,rfl,rfl,lg (by decide) (by decide),_,_,rfl,rfl,(by decide:(0:Int)<2),_,_,rfl,rfl,ml ⟨by decide,by decide⟩,_,_,rfl,rfl, ?_⟩
  refine⟨_,_,rfl,rfl,⟨by decide,by decide,by decide⟩,_,rfl,_,_,rfl,rfl,lg (by decide) (by decide),_,_,rfl,rfl,(by decide:(0:Int)<3),_,_,rfl,rfl,_,_,rfl,rfl,ml ?_,q _ ?_⟩
  ·have g4:=Int.emod_nonneg (n.fdiv 7) (by decide:(2:Int)≠0)
   have g5:=Int.emod_lt_of_pos (n.fdiv 7) (by decide:(0:Int)<2)
   constructor<;>omega
  ·have g4:=Int.emod_nonneg (n.fdiv 7) (by decide:(2:Int)≠0)
   have g5:=Int.emod_lt_of_pos (n.fdiv 7) (by decide:(0:Int)<2)
   have g6:=Int.emod_nonneg (n.fdiv 14) (by decide:(3:Int)≠0)
   have g7:=Int.emod_lt_of_pos (n.fdiv 14) (by decide:(0:Int)<3)
   rw[p40]
   show -NM.GR<=(1 - 2*(n.fdiv 7%2))*(NM.GR - n.fdiv 14%3)/\(1 - 2*(n.fdiv 7%2))*(NM.GR - n.fdiv 14%3)<=NM.GR
   have hs:(1:Int) - 2*(n.fdiv 7%2)=1\/(1:Int) - 2*(n.fdiv 7%2)= -1:=by omega
   rcases hs with hs|hs<;>rw[hs]<;>constructor<;>omega
 refine⟨_,rfl,_,_,rfl,rfl,(by decide:(0:Int)<7),.inl ⟨rfl,_,rfl,GY (λe=> ?_) (λe=> ?_)⟩⟩
 ·refine⟨_,rfl,_,_,rfl,rfl,mr ⟨by decide,by decide⟩,_,_,rfl,rfl,⟨by decide,by decide,by decide⟩,.inl ⟨_,_,rfl,rfl,_,_,rfl,rfl,pw,q _ ?_⟩⟩
  have g1:=Int.emod_nonneg (n*48271000000007) (Int.ne_of_gt pw)
  have g2:=Int.emod_lt_of_pos (n*48271000000007) pw
  show -NM.GR<=n*48271000000007%((10:Int)^((40:Int).toNat)+1)/\n*48271000000007%((10:Int)^((40:Int).toNat)+1)<=NM.GR
  rw[p40]at g1 g2⊢
  constructor<;>omega
 ·refine⟨_,rfl,_,_,rfl,rfl,lg (by decide) (by decide),_,_,rfl,rfl,(by decide:(0:Int)<41),_,_,rfl,rfl,q _ ?_⟩
  have g1:=Int.emod_nonneg (n.fdiv 7) (by decide:(41:Int)≠0)
  have g2:=Int.emod_lt_of_pos (n.fdiv 7) (by decide:(0:Int)<41)
  show -NM.GR<=n.fdiv 7%41 - 20/\n.fdiv 7%41 - 20<=NM.GR
  constructor<;>omega
end
end K67
namespace PG
open PySem L2 CL SW MC MT
open K67 (lg P3 spNumB BB)
open BV hiding ifT ifF NoG top
seal PE PT PW PA PS PSs PTs PI L2.PG PGs PO
noncomputable abbrev s_law_push:Stmt:=CL.top 37
noncomputable abbrev FR:List Str:=["_law_state","_law_kind","_law_cell","_law_known"]
theorem sc_law_push:FnScope FR ZE (A9 s_law_push):=fS
theorem U3(x:Int){m:Nat}(h:0<m):∃c:Nat,x%(m:Int)=(c:Int)/\c<m:=
 ⟨(x%(m:Int)).toNat,(Int.toNat_of_nonneg (Int.emod_nonneg _ (by omega))).symm,by
  have h1:=Int.emod_lt_of_pos x (show(0:Int)<(m:Int) by omega)
  have h2:=Int.emod_nonneg x (show(m:Int)≠0 by omega)
  omega⟩
theorem z1:(1:Nat)<=sizeLine:=by decide
theorem z2:(2:Nat)<=sizeLine:=by decide
theorem z3:(3:Nat)<=sizeLine:=by decide
theorem z6:(6:Nat)<=sizeLine:=by decide
noncomputable def Bas(k:Kd):Prop:=k=.n\/k=.t\/k=.l\/k=.L\/k=.F
theorem CO{hs:Hs}{k:Kd}{sl:List (Option Kd)}{j:Nat}(h:sl[j]? =some (some k)):DD hs k sl (.own (.load j)):=⟨rfl,λ_ _ _ _ e=> .load h e⟩
theorem YF{hs:Hs}{p k:Kd}{sl:List (Option Kd)}(h:Prt p k):DD hs k sl (.own .non):=⟨rfl,λ_ _ _ _ e=> .non h e⟩
theorem chZ{hs:Hs}{sl:List (Option Kd)}{b:Bool}:DD hs .t sl (.own (.push (.bl b))):=⟨rfl,λ_ _ _ _ e=> .pushT e⟩
theorem PX{hs:Hs}{sl:List (Option Kd)}{m:Int}(h:Bd m):DD hs .n sl (.own (.push (.int m))):=⟨rfl,λ_ _ _ _ e=> .pushN h e⟩
section
variable{P:Program}{w:World}{K:FZ}{mg:Str->Option Value}{base:Heap}{f M3:Addr}{fd M6:FuncData}
inductive spPushW(vs:List V)(H:Hp)(Q:VK):Prop
 |mk:∀(H0:Hp) (d:Addr) (k:Kd) (cell:Int) (rows:List Rw) (st:List Kd) (sl:List (Option Kd)),(vs=[.ref d,.str k.tx,.int cell])->(Bas k)->(StA H0 H d rows st sl)->(sl.length<=20)->(∀r p H',Same H H'->H' p=some (.tup (rwV r))->(∀hs,DD hs k sl r)->Q (.ref p) H')->spPushW vs H Q
noncomputable def JW:Sp:=λvs H Q _=>spPushW vs H Q
theorem ok_law_push(F:Fun K "_law_push" "_law_push" s_law_push f fd)(B:BV.NoG mg)
  (D9:Cn P w K mg base CX0 1 "_law_number" q4L K67.spNumB):
  FnOk P w K mg base CX0 2 f fd ZE JW:=by
 obtain⟨M3,M6,D9,M7,M4,M8⟩:=D9
 refine F.ok sc_law_push (λvs H Q E h=> ?_) (λcdv A outer s H vs Q E hr h=> ?_)
 ·obtain⟨H0,d,k,cell,rows,st,sl,rfl,_⟩:=h
  rfl
 obtain⟨H0,d,k,cell,rows,st,sl,rfl,hk,⟨a,b,c,rs,hA⟩,hl,q⟩:=h
 have nd:=sc_law_push.nd
 have hu:=hr.units0
 refine⟨_,(A6 (S6 (i:=3) nd rfl rfl (cS (N:=FR) (sc:=A9 s_law_push) (caps:=[1,0]) (ns:=["_law_kind","_law_state"])) rfl rfl rfl (L9 rfl B.range_ (A0 (B9 (J9 (K:=K)) rfl B.len_ E8 (A0 (C7 (lt_of_le_of_lt (add_le_add_left (by decide:1<=64) _) hr.units) (pv 0) A8 (λ_ _=>rfl)) A4)) A4)) (λ_ _ _ _ _=>(TH (B2 (kEq (K:=K) hu) (ixE K w (C7 (lt_of_le_of_lt (add_le_add_left (by decide:1<=64) _) hr.units) (pv 2) A8 (λ_ _=>rfl)) (pv 0)) (pv 1) rfl))) (λ_ _ _ _ _=>(pv 0)))
   (A6 (D8 (C8 (PW.pt (JY (B2 (kEq (K:=K) hu) (B4 D7 (pv 2) A5) A5 rfl) (EC (B2 (VL (K:=K) hu) (pv 3) (D4 A4) rfl)))) (A7 (B5 (B7 (A0 A8 (A0 (ixE K w (pv 3) (B4 D7 (B4 D1 (pv 2) A5) (B9 (J9 (K:=K)) rfl B.len_ E8 (A0 (pv 3) A4)))) A4))))) C1))
   (A6 (C8 (B2 (kIn (K:=K) (w:=w)) (pv 1) (B7 (A0 A8 (A0 A8 (A0 A8 A4)))) rfl) (A7 (B5 (B7 (A0 A8 A4)))) C1)
   (A6 (C8 (B2 (kEq (K:=K) hu) (pv 1) A8 rfl) (A7 (B5 (B7 (A0 A8 (A0 (N2 (kEq (K:=K) hu) (B4 D7 (B4 D1 (pv 2) A5) A5) A5 rfl) A4))))) C1)
   (A7 (B5 (B7 (A0 A8 (A0 (B1 D9 (hr.mono (by omega)) rfl M8 M4 M7 .nil B8 (A0 (B4 D1 (pv 2) A5) A4)) A4))))))))), ?_⟩
 refine⟨_,rfl,d,.ref c,rfl,hA.gc,_,_,rfl,.inl ⟨_,SqL.of hA.hc,rfl⟩,(sl.length:Nat),(by rw[length_map]),by omega,by omega,O5 (n:=sl.length) (λi ys H'=>H'=H/\∃js:List Nat,ys=js.map (λj=>V.int (j:Nat))/\js.length<=i/\∀j∈js,sl[j]? =some (some k)) ⟨rfl,[],rfl,le_refl _,λj hj=>(nomatch hj)⟩ ?_ ?_ ?_⟩
 ·rintro i ys H' hi ⟨rfl,js,rfl,hj,_⟩
  rw[length_map]
  exact le_trans (le_trans hj (le_trans hi hl)) (by decide)
 ·rintro i ys H' hi ⟨rfl,js,rfl,hj,hjs⟩
  have hx:(sl.map ov)[i]? =some (ov sl[i]):=by rw[getElem?_map,List.getElem?_eq_getElem hi];rfl
  refine⟨_,rfl,d,.ref c,rfl,hA.gc,_,rfl,.inl ⟨c,_,(i:Nat),_,rfl,(by rw[Int.zero_add]),SqL.of hA.hc,C9 hx,_,rfl,.inl ⟨?_,_,rfl, ?_⟩⟩⟩
  ·cases sl[i]<;>rfl
  ·by_cases e:sl[i]=some k
   ·refine ifT (decide_eq_true (ov_kv.mpr e)) ⟨_,rfl,rfl,js++ [i], ?_, ?_,λj hj'=> ?_⟩
    ·rw[map_append,Int.zero_add];rfl
    ·rw[length_append];exact succ_le_succ hj
    ·rcases mem_append.mp hj' with h|h
     ·exact hjs j h
     ·rw[sZ h,List.getElem?_eq_getElem hi,e]
   ·exact ifF (λz=>e (ov_kv.mp (of_decide_eq_true z))) ⟨rfl,js,rfl,le_succ_of_le hj,hjs⟩
 rintro ys H' ⟨rfl,js,rfl,hj,hjs⟩
 intro D hD
 have s1:=A3 hD (.lst (js.map λj=>V.int (j:Nat)))
 have hL:upd H' D (.lst (js.map λj=>V.int (j:Nat))) D=some (.lst (js.map λj=>V.int (j:Nat))):=A2
 show M0 _ _ _ [some (.ref d),some (.str k.tx),some (.int cell),some (.ref D)] (upd H' D (.lst (js.map λj=>V.int (j:Nat))))
 generalize upd H' D (.lst (js.map λj=>V.int (j:Nat)))=H1 at s1 hL⊢
 refine⟨fun σ' H2=>σ'=[some (.ref d),some (.str k.tx),some (.int cell),some (.ref D)]/\Same H' H2,⟨_,rfl,_,_,rfl,rfl,(by decide:(0:Int)<3),.inl ⟨rfl,_,rfl, ?_⟩⟩, ?_⟩
 ·by_cases c1:cell%3=1
  ·refine ifT (decide_eq_true (congrArg V.int c1)) ⟨_,rfl,zero_le _,λe he=> ?_⟩
   have s2:=A3 he (.lst [])
   by_cases c2:js=[]
   ·subst c2
    exact .inl ⟨D,e,[],rfl,rfl,SqL.of (s2 _ _ hL),SqL.of A2,rfl,_,rfl,ifF (by decide) ⟨rfl,s1.trans s2⟩⟩
   ·have hpos:0<js.length:=List.length_pos_iff.mpr c2
    refine .inr ⟨D,e,_,_,rfl,rfl,SqL.of (s2 _ _ hL),SqL.of A2,(by rw[length_map];show js.length≠0;omega),_,rfl,ifT rfl ?_⟩
    obtain⟨i,(ei:cell.fdiv 3%(js.length:Nat)=(i:Int)),hi⟩:=U3 (cell.fdiv 3) hpos
    have hx:(js.map λj=>V.int (j:Nat))[i]? =some (.int (js[i]:Nat)):=by rw[getElem?_map,List.getElem?_eq_getElem hi];rfl
    refine⟨_,rfl,_,rfl,_,_,rfl,rfl,lg (by decide) (by decide),_,rfl,_,_,rfl,.inl ⟨_,SqL.of (s2 _ _ hL),rfl⟩,_,_,rfl,rfl,(by rw[length_map];omega),.inl ⟨D,_,(i:Int),_,rfl,(by rw[length_map];exact congrArg V.int ei),SqL.of (s2 _ _ hL),C9 hx,z2,λp hp=> ?_⟩⟩
    have s3:=A3 hp (.tup [.str "load",.int (js[i]:Nat)])
    exact q (.own (.load js[i])) p _ (s1.trans (s2.trans s3)) A2 λhs=>CO (hjs _ (getElem_mem hi))
  ·exact ifF (λz=>c1 (by have:=of_decide_eq_true z;injection this)) (ifF (by decide) ⟨rfl,s1⟩)
 clear s1 hL H1
 rintro _ H2 ⟨rfl,s2⟩
 refine⟨_,rfl,z3,λt3 h3=> ?_⟩
 have s3:=A3 h3 (.tup [.str "l",.str "L",.str "F"])
 refine .inr (.inl ⟨t3,_,rfl,.inr (SqT.of A2),rfl,rfl,_,rfl, ?_⟩)
 by_cases c1:k=.l\/k=.L\/k=.F
 ·have hp:∃p,Prt p k:=by rcases c1 with rfl|rfl|rfl<;>exact⟨_,by constructor⟩
  obtain⟨p',hp'⟩:=hp
  refine ifT ?_ ⟨z1,λp hp=> ?_⟩
  ·rcases c1 with rfl|rfl|rfl<;>decide +kernel
  ·have s4:=A3 hp (.tup [.str "none"])
   exact q (.own .non) p _ (s2.trans (s3.trans s4)) A2 λhs=>YF hp'
 ·have hk2:k=.n\/k=.t:=by
   rcases hk with h|h|h|h|h
   ·exact .inl h
   ·exact .inr h
   ·exact absurd (.inl h) c1
   ·exact absurd (.inr (.inl h)) c1
   ·exact absurd (.inr (.inr h)) c1
  refine ifF ?_ ⟨_,rfl,.inl ⟨rfl,_,rfl, ?_⟩⟩
  ·rcases hk2 with rfl|rfl<;>decide +kernel
  rcases hk2 with rfl|rfl
  ·refine ifF (by decide +kernel) ⟨_,rfl,_,_,rfl,rfl,lg (by decide) (by decide),_,rfl,λm hm=>⟨z2,λp hp=> ?_⟩⟩
   have s4:=A3 hp (.tup [.str "push",.int m])
   exact q (.own (.push (.int m))) p _ (s2.trans (s3.trans s4)) A2 λhs=>PX hm
  ·refine ifT (by decide +kernel) ⟨_,rfl,_,_,rfl,rfl,lg (by decide) (by decide),_,_,rfl,rfl,(by decide:(0:Int)<2),.inl ⟨rfl,z2,λp hp=> ?_⟩⟩
   have s4:=A3 hp (.tup [.str "push",.bl (decide (V.int (cell.fdiv 3%2)=V.int 1))])
   exact q (.own (.push (.bl _))) p _ (s2.trans (s3.trans s4)) A2 λhs=>chZ
end
noncomputable abbrev s_law_want:Stmt:=CL.top 38
noncomputable abbrev PQ:List Str:=["_law_state","_law_kinds","_law_cell","_law_have","_law_k"]
theorem sc_law_want:FnScope PQ QF (A9 s_law_want):=fS
noncomputable def To_(rows:List Rw)(st:List Kd)(sl:List (Option Kd))(rows':List Rw)(st':List Kd):Prop:=∀(hs:Hs) (ps:List Kd) (tys:List At),GOk hs ps rows st sl tys->∃tys',GOk hs ps rows' st' sl tys'
noncomputable def wts(rows:List Rw):Nat:=(rows.map wt).sum
theorem K9(a b:List Rw):wts (a++b)=wts a+wts b:=by unfold wts;rw[map_append,sum_append]
theorem X4(as:List Kd):as.map kv=(as.map Kd.tx).map V.str:=by rw[List.map_map];rfl
theorem amZ{as bs:List Kd}(h:as.map Kd.tx=bs.map Kd.tx):as=bs:=aBZ (by rw[X4,X4,h])
section
variable{P:Program}{w:World}{K:FZ}{mg:Str->Option Value}{base:Heap}{f S3:Addr}{fd S0:FuncData}
inductive spWantW(vs:List V)(H:Hp)(Q:VK):Prop
 |mk:∀(H0:Hp) (d lk:Addr) (ks:List Kd) (cell:Int) (rows:List Rw) (st:List Kd) (sl:List (Option Kd)),(vs=[.ref d,.ref lk,.int cell])->((∀k∈ks,Bas k))->(H0 lk=some (.lst (ks.map kv)))->(StA H0 H d rows st sl)->(sl.length<=20)->(ks.length<=10)->(st.length<=1000)->(rows.length<=1000)->(∀rows' st' H',StA H0 H' d rows' st' sl->To_ rows st sl rows' (st'++ks)->rows'.length<=rows.length+ks.length->wts rows'=wts rows->st'.length<=st.length->(∀k∈st',k∈st)->Q .non H')->spWantW vs H Q
noncomputable def CN:Sp:=λvs H Q _=>spWantW vs H Q
theorem ok_law_want(F:Fun K "_law_want" "_law_want" s_law_want f fd)(B:BV.NoG mg)
  (J5:Cn P w K mg base CX0 2 "_law_push" ZE JW):
  FnOk P w K mg base CX0 3 f fd QF CN:=by
 obtain⟨S3,S0,J5,P7,P5,P6⟩:=J5
 refine F.ok sc_law_want (λvs H Q E h=> ?_) (λcdv A outer s H vs Q E hr h=> ?_)
 ·obtain⟨H0,d,lk,ks,cell,rows,st,sl,rfl,_⟩:=h
  rfl
 obtain⟨H0,d,lk,ks,cell,rows,st,sl,rfl,hks,hlk,⟨a,b,c,rs,hA⟩,hl,hkl,hsl,hrl,q⟩:=h
 have nd:=sc_law_want.nd
 have hu:=hr.units0
 refine⟨_,(A6 (C5 (i:=3) nd rfl (Or.inl rfl) (G5 (W7 (K:=K)) (C7 (lt_of_le_of_lt (add_le_add_left (by decide:1<=64) _) hr.units) (pv 0) A8 (λ_ _=>rfl)) (J3 (B9 (dxZ (K:=K) rfl) rfl B.max_ bPZ (A0 A5 (A0 (B4 P2 (B9 (J9 (K:=K)) rfl B.len_ E8 (A0 (C7 (lt_of_le_of_lt (add_le_add_left (by decide:1<=64) _) hr.units) (pv 0) A8 (λ_ _=>rfl)) A4)) (B9 (J9 (K:=K)) rfl B.len_ E8 (A0 (pv 1) A4))) A4)))) K4))
   (A7 (D8 (C8 (B2 (boZ (K:=K) hu) (pv 3) (pv 1) rfl) (A7 (D8 (U0 PassesOwn.never rfl (L9 rfl B.range_ (A0 (B9 (J9 (K:=K)) rfl B.len_ E8 (A0 (pv 1) A4)) A4)) (G4 (i:=4) nd rfl (Or.inl rfl)) (A7 (C0 (M9 (K:=K) PySem.F.plainAttrs_list PySem.F.slot_list_append PySem.F.type_list_append C3 (C7 (lt_of_le_of_lt (add_le_add_left (by decide:1<=64) _) hr.units) (pv 0) A8 (λ_ _=>rfl)) (A0 (B1 J5 (hr.mono (by omega)) rfl P6 P5 P7 .nil B8 (A0 (pv 0) (A0 (ixE K w (pv 1) (pv 4)) (A0 (B4 D1 (pv 2) (B4 aWZ A5 (B4 JP A5 (pv 4)))) A4)))) A4))))))) (A7 (P8 (G5 (W7 (K:=K)) (C7 (lt_of_le_of_lt (add_le_add_left (by decide:1<=64) _) hr.units) (pv 0) A8 (λ_ _=>rfl)) K4 (J3 (B4 P2 (B9 (J9 (K:=K)) rfl B.len_ E8 (A0 (C7 (lt_of_le_of_lt (add_le_add_left (by decide:1<=64) _) hr.units) (pv 0) A8 (λ_ _=>rfl)) A4)) (B9 (J9 (K:=K)) rfl B.len_ E8 (A0 (pv 1) A4))))) (W3 (pv 0) A8 (MN hr.units)))))))), ?_⟩
 have hk:=hA.sm _ _ hlk
 have lst:(st.map kv).length=st.length:=length_map ..
 have lks:(ks.map kv).length=ks.length:=length_map ..
 refine⟨_,rfl,d,.ref b,rfl,hA.gb,_,rfl,d,.ref b,rfl,hA.gb,_,_,rfl,.inl ⟨_,SqL.of hA.hb,rfl⟩,_,rfl,_,_,rfl,.inl ⟨_,SqL.of hk,rfl⟩,_,_,rfl,rfl,.inl ⟨_,_,rfl,_,rfl,.inl (.inl ⟨b,_,rfl,SqL.of hA.hb,λp hp=> ?_⟩)⟩⟩
 have ecut:G9 (st.map kv) (some (if((st.map kv).length:Int) - ((ks.map kv).length:Nat)>0 then((st.map kv).length:Int) - ((ks.map kv).length:Nat)else 0)) none=(st.drop (st.length - ks.length)).map kv:=by
  have ei:(if((st.map kv).length:Int) - ((ks.map kv).length:Nat)>0 then((st.map kv).length:Int) - ((ks.map kv).length:Nat)else 0)=((st.length - ks.length:Nat):Int):=by
   rw[lst,lks];split<;>omega
  rw[ei]
  unfold G9
  rw[HT.sIx_nat,HT.sIx_none,lst,min_eq_left (Nat.sub_le _ _),map_drop,take_of_length_le]
  rw[length_drop,lst]
  exact le_refl _
 have s1:=A3 hp (.lst ((st.drop (st.length - ks.length)).map kv))
 rw[ecut]
 have hH:upd H p (.lst ((st.drop (st.length - ks.length)).map kv)) p=some (.lst ((st.drop (st.length - ks.length)).map kv)):=A2
 generalize upd H p (.lst ((st.drop (st.length - ks.length)).map kv))=H1 at s1 hH⊢
 have hA1:=hA.same s1
 have hk1:=s1 _ _ hk
 refine⟨fun σ' H'=>∃rows' st',StA H0 H' d rows' st' sl/\To_ rows st sl rows' (st'++ks)/\rows'.length<=rows.length+ks.length/\wts rows'=wts rows/\st'.length<=st.length/\∀k∈st',k∈st, ?_,fun σ' H' ⟨rows',st',h1,h2,h3,h4,h5,h6⟩=>q rows' st' H' h1 h2 h3 h4 h5 h6⟩
 refine⟨_,rfl,_,rfl,p,lk,_,_,rfl,rfl,SqL.of hH,SqL.of hk1,(by rw[X4];exact HZ),(by rw[X4];exact HZ),_,rfl, ?_⟩
 by_cases e:st.drop (st.length - ks.length)=ks
 ·refine ifF ?_ ?_
  ·rw[X4,X4,FO,e,decide_eq_true rfl];decide
  have hle:ks.length<=st.length:=by
   have:=congrArg List.length e
   rw[length_drop]at this
   omega
  have ecut2:G9 (st.map kv) none (some (((st.map kv).length:Int) - ((ks.map kv).length:Nat)))=(st.take (st.length - ks.length)).map kv:=by
   have ei:((st.map kv).length:Int) - ((ks.map kv).length:Nat)=((st.length - ks.length:Nat):Int):=by
    rw[lst,lks];omega
   rw[ei]
   unfold G9
   rw[HT.sIx_nat,HT.sIx_none,lst,min_eq_left (Nat.sub_le _ _),drop_zero,sub_zero,List.map_take]
  refine⟨_,rfl,d,.ref b,rfl,hA1.gb,_,rfl,d,.ref b,rfl,hA1.gb,_,_,rfl,.inl ⟨_,SqL.of hA1.hb,rfl⟩,_,rfl,_,_,rfl,.inl ⟨_,SqL.of hk1,rfl⟩,_,_,rfl,rfl,_,rfl,.inl (.inl ⟨b,_,rfl,SqL.of hA1.hb,λb' hb'=> ?_⟩)⟩
  rw[ecut2]
  have s2:=A3 hb' (.lst ((st.take (st.length - ks.length)).map kv))
  refine⟨_,rfl,d,_,rfl,DPut.k (k:=.inr "stack") (s2 _ _ hA1.hd) (show 3<sizeLine by decide),rows,st.take (st.length - ks.length),⟨a,b',c,rs,hA1.put hb'⟩,λhs ps tys hg=>⟨tys, ?_⟩,le_add_right _ _,rfl,by rw[length_take];omega,λk hk=>List.mem_of_mem_take hk⟩
  have es:st.take (st.length - ks.length)++ks=st:=by
   conv=>lhs;rhs;rw[<-e]
   exact List.take_append_drop _ _
  rw[es]
  exact hg
 ·refine ifT ?_ ?_
  ·rw[X4,X4,FO,decide_eq_false λz=>e (amZ z)];rfl
  refine⟨fun σ' H'=>∃rows' st',StA H0 H' d rows' st' sl/\To_ rows st sl rows' (st'++ks)/\rows'.length<=rows.length+ks.length/\wts rows'=wts rows/\st'.length<=st.length/\∀k∈st',k∈st, ?_,λ_ _ h=>h⟩
  refine⟨_,rfl,_,_,rfl,.inl ⟨_,SqL.of hk1,rfl⟩,(ks.length:Nat),(by rw[lks]),by omega,by omega,Z2 (n:=ks.length) (λi σ H'=>∃x4 rows',σ=[some (.ref d),some (.ref lk),some (.int cell),some (.ref p),x4]/\StA H0 H' d rows' st sl/\To_ rows st sl rows' (st++ks.take i)/\rows'.length=rows.length+i/\wts rows'=wts rows) ?_ ?_ ?_⟩
  ·exact⟨none,rows,rfl,⟨a,b,c,rs,hA1⟩,λhs ps tys hg=>⟨tys,by rw[List.take_zero,append_nil];exact hg⟩,rfl,rfl⟩
  ·rintro i σ H' hi ⟨x4,rows',rfl,⟨a',b',c',rs',hA'⟩,hT,hlr,hw⟩
   have hx:(ks.map kv)[i]? =some (kv ks[i]):=by rw[getElem?_map,List.getElem?_eq_getElem hi];rfl
   have hk':=hA'.sm _ _ hlk
   have hrs:=hA'.hr.len
   refine⟨_,rfl,d,.ref a',rfl,hA'.gr,.inl ⟨rfl,_,SqL.of hA'.ha⟩,_,rfl,_,rfl,_,rfl,.inl ⟨lk,_,(i:Nat),_,rfl,(by rw[Int.zero_add]),SqL.of hk',C9 hx,_,rfl,_,rfl,.inl ⟨_,_,rfl,rfl,.inl ⟨by decide,by decide⟩,.inl ⟨_,_,rfl,rfl,_,_,rfl,rfl,lg (by omega) (by omega),H0,d,ks[i],_,rows',st,sl,rfl,hks _ (getElem_mem hi),⟨a',b',c',rs',hA'⟩,hl,λr p2 H2 s2 hp2 hK=> ?_⟩⟩⟩⟩
   have hA2:=hA'.same s2
   refine⟨a',rs',.ref p2,rfl,rfl,hA2.ha,(by rw[<-hrs,hlr];exact lt_of_le_of_lt (Nat.add_le_add hrl (le_trans (le_of_lt hi) hkl)) (by decide)), ?_⟩
   refine⟨_,rows'++ [r],rfl,⟨a',b',c',_,hA2.row ⟨p2,rfl,hp2⟩⟩,λhs ps tys hg=> ?_,by rw[length_append,hlr];rfl, ?_⟩
   ·obtain⟨tys',hg'⟩:=hT hs ps tys hg
    have:=hg'.push (hK hs)
    have et:ks.take i++ [ks[i]]=ks.take (i+1):=by rw[take_succ,List.getElem?_eq_getElem hi];rfl
    rw[List.append_assoc,et]at this
    exact⟨_,this⟩
   ·have h1:=(hK []).1
    have h2:wts [r]=0:=by show wt r+0=0;rw[h1]
    rw[K9,hw,h2,Nat.add_zero]
  ·rintro σ H' ⟨x4,rows',rfl,h1,h2,h3,h4⟩
   refine⟨rows',st,h1, ?_,by omega,h4,le_refl _,λ_ h=>h⟩
   rw[take_length]at h2
   exact h2
variable{H0 H:Hp}{d a b c:Addr}{rs:List V}{rows:List Rw}{st:List Kd}{sl:List (Option Kd)}{i:Nat}{t:TA}{σ:St}{Q:VK}
theorem dgr(h0:σ[i]? =some (some (.ref d)))(h:SA H0 H d a b c rs rows st sl)(k:t σ H λxs H2=>rAppend (.ref a) xs H2 Q):tBM K "list" rAppend (XG (tVar i) (tC (.str "rows"))) t σ H Q:=
 ⟨_,h0,d,.ref a,rfl,h.gr,.inl ⟨rfl,_,SqL.of h.ha⟩,k⟩
theorem dgb(h0:σ[i]? =some (some (.ref d)))(h:SA H0 H d a b c rs rows st sl)(k:t σ H λxs H2=>rAppend (.ref b) xs H2 Q):tBM K "list" rAppend (XG (tVar i) (tC (.str "stack"))) t σ H Q:=
 ⟨_,h0,d,.ref b,rfl,h.gb,.inl ⟨rfl,_,SqL.of h.hb⟩,k⟩
end
noncomputable abbrev s_law_reckon:Stmt:=CL.top 39
noncomputable abbrev JT:List Str:=["_law_state","_law_more"]
theorem sc_law_reckon:FnScope JT DU (A9 s_law_reckon):=fS
noncomputable abbrev s_law_branch:Stmt:=CL.top 41
noncomputable abbrev JM:List Str:=["_law_state","_law_more","_law_kind"]
theorem sc_law_branch:FnScope JM DU (A9 s_law_branch):=fS
section
variable{H0 H H':Hp}{d a b c x:Addr}{o:HO}{rs:List V}{rows:List Rw}{st st':List Kd}{sl sl':List (Option Kd)}
theorem SA.base(h:SA H0 H d a b c rs rows st sl)(hx:H x=none)(o:HO):SA (upd H0 x o) (upd H x o) d a b c rs rows st sl:=by
 have h':=h.same (A3 hx o)
 have ne:∀ {y:Addr} {ob:HO},H y=some ob->y≠x:=λ{y ob} e z=>by rw[z,hx]at e;cases e
 refine⟨λy ob e=> ?_,h'.hd,h'.ha,h'.hr,h'.hb,h'.hc,by rw[B0 (ne h.hd)];exact h.nd,by rw[B0 (ne h.ha)];exact h.na,by rw[B0 (ne h.hb)];exact h.nb,by rw[B0 (ne h.hc)];exact h.nc,h.ab,h.ac,h.bc⟩
 by_cases z:y=x
 ·subst z
  rw[A2]at e⊢
  exact e
 ·rw[B0 z]at e⊢
  exact h.sm _ _ e
theorem SA.unbase(h:SA (upd H0 x o) H' d a b c rs rows st sl)(hx:H0 x=none):SA H0 H' d a b c rs rows st sl:=by
 have nn:∀ {y:Addr},upd H0 x o y=none->H0 y=none:=λ{y} e=>by
  by_cases z:y=x
  ·rw[z];exact hx
  ·rw[B0 z]at e;exact e
 exact⟨λy ob e=>h.sm _ _ (by rw[B0 λz=>by rw[z,hx]at e;cases e];exact e),h.hd,h.ha,h.hr,h.hb,h.hc,nn h.nd,nn h.na,nn h.nb,nn h.nc,h.ab,h.ac,h.bc⟩
theorem SA.n0(h:SA H0 H d a b c rs rows st sl)(hx:H x=none):H0 x=none:=by
 cases e:H0 x with
 |none=>rfl
 |some ob=>rw[h.sm _ _ e]at hx;cases hx
end
theorem v_n:V.str "n"=kv .n:=congrArg V.str dHZ
theorem v_t:V.str "t"=kv .t:=congrArg V.str dNZ
theorem v_l:V.str "l"=kv .l:=congrArg V.str d1Z
theorem v_L:V.str "L"=kv .L:=congrArg V.str dQZ
theorem v_F:V.str "F"=kv .F:=congrArg V.str d2Z
theorem v_fn:V.str "fn"=kv (.fn .n):=congrArg V.str dpZ
noncomputable def Gd(k:Kd):Prop:=Bas k\/∃k',k=.fn k'/\Bas k'
noncomputable def GdS(st:List Kd)(sl:List (Option Kd)):Prop:=(∀k∈st,Gd k)/\∀k,some k∈sl->Gd k
theorem O2{st st':List Kd}{sl:List (Option Kd)}{k:Kd}(h:GdS st sl)(hs:∀k∈st',k∈st)(hk:Gd k):GdS (st'++ [k]) sl:=
 ⟨λx hx=>by
  rcases mem_append.mp hx with hx|hx
  ·exact h.1 x (hs x hx)
  ·rw[sZ hx];exact hk,h.2⟩
structure Pc (hs:Hs) (rows:List Rw) (st:List Kd) (sl:List (Option Kd)) (rows':List Rw) (st':List Kd) (sl':List (Option Kd)):Prop where
 go:∀(ps:List Kd) (tys:List At),GOk hs ps rows st sl tys->∃tys',GOk hs ps rows' st' sl' tys'
 len:rows'.length<=rows.length+6
 wts:wts rows'<=wts rows+1
 stl:st'.length<=st.length+1
 sll:sl'.length=sl.length
 gd:GdS st sl->GdS st' sl'
section
variable{P:Program}{w:World}{K:FZ}{mg:Str->Option Value}{base:Heap}{f S3 N4:Addr}{fd S0 N5:FuncData}
inductive spPcW(vs:List V)(H:Hp)(Q:VK):Prop
 |mk:∀(H0:Hp) (d:Addr) (more:Int) (rows:List Rw) (st:List Kd) (sl:List (Option Kd)),(vs=[.ref d,.int more])->(StA H0 H d rows st sl)->(3<=sl.length)->(sl.length<=20)->(st.length<=900)->(rows.length<=900)->(GdS st sl)->(∀rows' st' sl' H',StA H0 H' d rows' st' sl'->(∀hs,Pc hs rows st sl rows' st' sl')->Q .non H')->spPcW vs H Q
noncomputable def NI:Sp:=λvs H Q _=>spPcW vs H Q
noncomputable def twk:Nat->Nat
 |0=>0|1=>1|2=>2|3=>5|4=>3|_=>4
theorem b9Z{j:Nat}(h:j<6): [V.str "add",V.str "sub",V.str "mul",V.str "div",V.str "less",V.str "same"][j]? =some (.str (wd (twk j)))/\∃c,("nnnntt":Str).cps.toList[j]? =some c/\V.str ⟨#[c]⟩=kv (if twk j=3\/twk j=4 then .t else .n)/\twk j<6:=by
 have e:("nnnntt":Str).cps.toList=[110,110,110,110,116,116]:=by decide +kernel
 rw[e]
 match j,h with
 |0,_=>exact⟨rfl,_,rfl,rfl,by decide⟩
 |1,_=>exact⟨rfl,_,rfl,rfl,by decide⟩
 |2,_=>exact⟨rfl,_,rfl,rfl,by decide⟩
 |3,_=>exact⟨rfl,_,rfl,rfl,by decide⟩
 |4,_=>exact⟨rfl,_,rfl,rfl,by decide⟩
 |5,_=>exact⟨rfl,_,rfl,rfl,by decide⟩
theorem ok_law_reckon(F:Fun K "_law_reckon" "_law_reckon" s_law_reckon f fd)
  (D5:Cn P w K mg base CX0 3 "_law_want" QF CN):
  FnOk P w K mg base CX0 4 f fd DU NI:=by
 obtain⟨N4,N5,D5,K3,K2,K1⟩:=D5
 refine F.ok sc_law_reckon (λvs H Q E h=> ?_) (λcdv A outer s H vs Q E hr h=> ?_)
 ·obtain⟨H0,d,more,rows,st,sl,rfl,_⟩:=h
  rfl
 obtain⟨H0,d,more,rows,st,sl,rfl,⟨a,b,c,rs,hA⟩,hl3,hl,hsl,hrl,hgs,q⟩:=h
 have nd:=sc_law_reckon.nd
 have hu:=hr.units0
 refine⟨_,(A6 (C0 (B1 D5 (hr.mono (by omega)) rfl K1 K2 K3 .nil B8 (A0 (pv 0) (A0 (D4 (A0 A8 (A0 A8 A4))) (A0 (B4 D1 (pv 1) A5) A4)))))
   (A6 (C0 (M9 (K:=K) PySem.F.plainAttrs_list PySem.F.slot_list_append PySem.F.type_list_append C3 (C7 (lt_of_le_of_lt (add_le_add_left (by decide:1<=64) _) hr.units) (pv 0) A8 (λ_ _=>rfl)) (A0 (B7 (A0 (ixE K w (D4 (A0 A8 (A0 A8 (A0 A8 (A0 A8 (A0 A8 (A0 A8 A4))))))) (B4 D7 (pv 1) A5)) A4)) A4)))
   (A7 (C0 (M9 (K:=K) PySem.F.plainAttrs_list PySem.F.slot_list_append PySem.F.type_list_append C3 (C7 (lt_of_le_of_lt (add_le_add_left (by decide:1<=64) _) hr.units) (pv 0) A8 (λ_ _=>rfl)) (A0 (FE ix_str A8 (B4 D7 (pv 1) A5) (λ_ _=>rfl)) A4)))))), ?_⟩
 obtain⟨j,(ej:more%6=(j:Int)),hj⟩:=U3 more (m:=6) (by decide)
 obtain⟨t1,cc,t2,t3,t4⟩:=b9Z hj
 refine⟨_,rfl,z2,λl hl'=>⟨_,rfl,_,_,rfl,rfl,lg (by decide) (by decide),upd H0 l (.lst [.str "n",.str "n"]),d,l,[.n,.n],_,rows,st,sl,rfl, ?_, ?_,⟨a,b,c,rs,hA.base hl' _⟩,hl,by decide,le_trans hsl (by decide),le_trans hrl (by decide),λrows' st' H2 hS hT hlr hw hst hsub=> ?_⟩⟩
 ·intro k hk
  simp only[mem_cons,not_mem_nil,or_false,or_self]at hk
  exact .inl hk
 ·rw[A2,v_n];rfl
 obtain⟨a',b',c',rs',hA'⟩:=hS
 replace hA':=hA'.unbase (hA.n0 hl')
 have hrs:=hA'.hr.len
 simp only[length_cons,length_nil]at hlr
 refine(dgr rfl hA' (⟨z6,λl6 h6=>⟨_,rfl,_,_,rfl,rfl,(by decide:(0:Int)<6),.inl ⟨l6,_,(j:Int),_,rfl,congrArg V.int ej,SqL.of A2,C9 t1,z1,λp hp=> ?_⟩⟩⟩))
 have s3:=A3 h6 (.lst [.str "add",.str "sub",.str "mul",.str "div",.str "less",.str "same"])
 have s4:=A3 hp (.tup [.str (wd (twk j))])
 have hA2:=hA'.same (s3.trans s4)
 refine⟨a',rs',.ref p,rfl,rfl,hA2.ha,(by rw[<-hrs];exact lt_of_le_of_lt (le_trans hlr (Nat.add_le_add_right hrl 2)) (by decide)), ?_⟩
 have hA3:=hA2.row (r:=.own (.two (twk j))) ⟨p,rfl,A2⟩
 refine(dgb rfl hA3 (⟨_,rfl,_,_,rfl,rfl,(by decide:(0:Int)<6),_,(j:Int),cc,rfl,congrArg V.int ej,by decide +kernel,C9 t2, ?_⟩))
 refine⟨b',_,_,rfl,rfl,hA3.hb,(by rw[length_map];exact lt_of_le_of_lt (le_trans hst hsl) (by decide)), ?_⟩
 rw[t3]
 have hA4:=hA3.stk (st':=st'++ [if twk j=3\/twk j=4 then .t else .n])
 rw[map_append]at hA4
 refine q _ _ sl _ ⟨a',b',c',_,hA4⟩ λhs=>⟨λps tys hg=> ?_, ?_, ?_, ?_,rfl,λh=>O2 h hsub (by split;exact .inl (.inr (.inl rfl));exact .inl (.inl rfl))⟩
 ·obtain⟨tys',hg'⟩:=hT hs ps tys hg
  exact⟨_,hg'.one (λtold ty i e=> .two t4 e) (by simp only[length_append,length_cons,length_nil];omega) rfl⟩
 ·rw[length_append];exact le_trans (succ_le_succ hlr) (add_le_add_left (by decide:3<=6) _)
 ·rw[K9,hw];exact le_add_right _ _
 ·rw[length_append];exact succ_le_succ hst
theorem deZ{j:Nat}(h:j<4):∃c k,("nlLt":Str).cps.toList[j]? =some c/\V.str ⟨#[c]⟩=kv k/\Bas k:=by
 have e:("nlLt":Str).cps.toList=[110,108,76,116]:=by decide +kernel
 rw[e]
 match j,h with
 |0,_=>exact⟨_,.n,rfl,rfl,.inl rfl⟩
 |1,_=>exact⟨_,.l,rfl,rfl,.inr (.inr (.inl rfl))⟩
 |2,_=>exact⟨_,.L,rfl,rfl,.inr (.inr (.inr (.inl rfl)))⟩
 |3,_=>exact⟨_,.t,rfl,rfl,.inr (.inl rfl)⟩
theorem ok_law_branch(F:Fun K "_law_branch" "_law_branch" s_law_branch f fd)
  (J5:Cn P w K mg base CX0 2 "_law_push" ZE JW)
  (D5:Cn P w K mg base CX0 3 "_law_want" QF CN):
  FnOk P w K mg base CX0 4 f fd DU NI:=by
 obtain⟨S3,S0,J5,P7,P5,P6⟩:=J5
 obtain⟨N4,N5,D5,K3,K2,K1⟩:=D5
 refine F.ok sc_law_branch (λvs H Q E h=> ?_) (λcdv A outer s H vs Q E hr h=> ?_)
 ·obtain⟨H0,d,more,rows,st,sl,rfl,_⟩:=h
  rfl
 obtain⟨H0,d,more,rows,st,sl,rfl,⟨a,b,c,rs,hA⟩,hl3,hl,hsl,hrl,hgs,q⟩:=h
 have nd:=sc_law_branch.nd
 have hu:=hr.units0
 refine⟨_,(A6 (C5 (i:=2) nd rfl (Or.inl rfl) (FE ix_str A8 (B4 D7 (pv 1) A5) (λ_ _=>rfl)))
   (A6 (C0 (B1 D5 (hr.mono (by omega)) rfl K1 K2 K3 .nil B8 (A0 (pv 0) (A0 (D4 (A0 A8 A4)) (A0 (B4 D1 (pv 1) A5) A4)))))
   (A6 (D8 (C8 (B2 (kEq (K:=K) hu) (B4 D7 (B4 D1 (pv 1) A5) A5) A5 rfl) (A7 (C0 (M9 (K:=K) PySem.F.plainAttrs_list PySem.F.slot_list_append PySem.F.type_list_append C3 (C7 (lt_of_le_of_lt (add_le_add_left (by decide:1<=64) _) hr.units) (pv 0) A8 (λ_ _=>rfl)) (A0 (B7 (A0 A8 A4)) A4)))) C1))
   (A6 (C0 (M9 (K:=K) PySem.F.plainAttrs_list PySem.F.slot_list_append PySem.F.type_list_append C3 (C7 (lt_of_le_of_lt (add_le_add_left (by decide:1<=64) _) hr.units) (pv 0) A8 (λ_ _=>rfl)) (A0 (B7 (A0 A8 (A0 A5 A4))) A4)))
   (A6 (C0 (M9 (K:=K) PySem.F.plainAttrs_list PySem.F.slot_list_append PySem.F.type_list_append C3 (C7 (lt_of_le_of_lt (add_le_add_left (by decide:1<=64) _) hr.units) (pv 0) A8 (λ_ _=>rfl)) (A0 (B1 J5 (hr.mono (by omega)) rfl P6 P5 P7 .nil B8 (A0 (pv 0) (A0 (pv 2) (A0 (B4 D1 (pv 1) A5) A4)))) A4)))
   (A6 (C0 (M9 (K:=K) PySem.F.plainAttrs_list PySem.F.slot_list_append PySem.F.type_list_append C3 (C7 (lt_of_le_of_lt (add_le_add_left (by decide:1<=64) _) hr.units) (pv 0) A8 (λ_ _=>rfl)) (A0 (B7 (A0 A8 (A0 A5 A4))) A4)))
   (A6 (C0 (M9 (K:=K) PySem.F.plainAttrs_list PySem.F.slot_list_append PySem.F.type_list_append C3 (C7 (lt_of_le_of_lt (add_le_add_left (by decide:1<=64) _) hr.units) (pv 0) A8 (λ_ _=>rfl)) (A0 (B1 J5 (hr.mono (by omega)) rfl P6 P5 P7 .nil B8 (A0 (pv 0) (A0 (pv 2) (A0 (B4 D1 (pv 1) A5) A4)))) A4)))
   (A7 (C0 (M9 (K:=K) PySem.F.plainAttrs_list PySem.F.slot_list_append PySem.F.type_list_append C3 (C7 (lt_of_le_of_lt (add_le_add_left (by decide:1<=64) _) hr.units) (pv 0) A8 (λ_ _=>rfl)) (A0 (pv 2) A4))))))))))), ?_⟩
 obtain⟨j,(ej:more%4=(j:Int)),hj⟩:=U3 more (m:=4) (by decide)
 obtain⟨cc,k,t2,t3,hk⟩:=deZ hj
 refine⟨_,rfl,_,_,rfl,rfl,(by decide:(0:Int)<4),_,(j:Int),cc,rfl,congrArg V.int ej,by decide +kernel,C9 t2, ?_⟩
 show M0 _ _ _ [some (.ref d),some (.int more),some (.str ⟨#[cc]⟩)] H
 rw[t3]
 refine⟨_,rfl,z1,λl hl'=>⟨_,rfl,_,_,rfl,rfl,lg (by decide) (by decide),upd H0 l (.lst [.str "t"]),d,l,[.t],_,rows,st,sl,rfl, ?_, ?_,⟨a,b,c,rs,hA.base hl' _⟩,hl,by decide,le_trans hsl (by decide),le_trans hrl (by decide),λrows' st' H2 hS hT hlr hw hst hsub=> ?_⟩⟩
 ·intro k hk
  exact .inr (.inl (sZ hk))
 ·rw[A2,v_t];rfl
 obtain⟨a1,b1,c1,rs1,hA1⟩:=hS
 replace hA1:=hA1.unbase (hA.n0 hl')
 simp only[length_singleton]at hlr
 have big:∀n,n<=910->n<sizeLine:=λn h=>lt_of_le_of_lt h (by decide)
 refine⟨fun σ' H'=>σ'=[some (.ref d),some (.int more),some (kv k)]/\∃rows2,StA H0 H' d rows2 st' sl/\To_ rows st sl rows2 (st'++ [.t])/\rows2.length<=rows.length+2/\wts rows2=wts rows, ?_, ?_⟩
 ·refine⟨_,rfl,_,_,rfl,rfl,lg (by decide) (by decide),_,_,rfl,rfl,(by decide:(0:Int)<3),.inl ⟨rfl,_,rfl, ?_⟩⟩
  by_cases c1':more.fdiv 8%3=1
  ·refine ifT (decide_eq_true (congrArg V.int c1')) (dgr rfl hA1 (⟨z1,λp hp=> ?_⟩))
   have s3:=A3 hp (.tup [.str "not"])
   have hA2:=hA1.same s3
   refine⟨a1,rs1,.ref p,rfl,rfl,hA2.ha,big _ (by rw[<-hA1.hr.len];omega),rfl,rows'++ [.own .not],⟨a1,b1,c1,_,hA2.row (r:=.own .not) ⟨p,rfl,A2⟩⟩,λhs ps tys hg=> ?_,by rw[length_append];simp only[length_singleton];omega,by rw[K9,hw];rfl⟩
   obtain⟨tys',hg'⟩:=hT hs ps tys hg
   exact⟨_,hg'.one (λtold ty i e=> .not e) (le_succ _) rfl⟩
  ·exact ifF (λz=>c1' (by have:=of_decide_eq_true z;injection this)) ⟨rfl,rows',⟨a1,b1,c1,rs1,hA1⟩,hT,by omega,hw⟩
 clear hA1 hT hlr hw
 rintro _ H3 ⟨rfl,rows2,⟨a1,b1,c1,rs1,hA1⟩,hT,hlr,hw⟩
 refine(dgr rfl hA1 (⟨z2,λp hp=> ?_⟩))
 have hA2:=(hA1.same (A3 hp (.tup [.str "unless",.int 2]))).row (r:=.own (.unless 2)) ⟨p,rfl,A2⟩
 refine⟨a1,rs1,.ref p,rfl,rfl,(A3 hp _) _ _ hA1.ha,big _ (by rw[<-hA1.hr.len];omega), ?_⟩
 generalize upd (upd H3 p (.tup [.str "unless",.int 2])) a1 (.lst (rs1++ [.ref p]))=H4 at hA2⊢
 refine(dgr rfl hA2 (⟨_,rfl,_,rfl,_,rfl,_,_,rfl,rfl,lg (by decide) (by decide),H0,d,k,_,_,st',sl,rfl,hk,⟨a1,b1,c1,_,hA2⟩,hl,λr1 p1 H5 s5 hp1 hK1=> ?_⟩))
 have hA3:=(hA2.same s5).row (r:=r1) ⟨p1,rfl,hp1⟩
 refine⟨a1,_,.ref p1,rfl,rfl,(hA2.same s5).ha,big _ (by rw[<-hA2.hr.len,length_append];simp only[length_singleton];omega), ?_⟩
 generalize upd H5 a1 (.lst (rs1++ [.ref p]++ [.ref p1]))=H6 at hA3⊢
 refine(dgr rfl hA3 (⟨z2,λp2 hp2=> ?_⟩))
 have hA4:=(hA3.same (A3 hp2 (.tup [.str "skip",.int 1]))).row (r:=.own (.skip 1)) ⟨p2,rfl,A2⟩
 refine⟨a1,_,.ref p2,rfl,rfl,(A3 hp2 _) _ _ hA3.ha,big _ (by rw[<-hA3.hr.len];simp only[length_append,length_singleton];omega), ?_⟩
 generalize upd (upd H6 p2 (.tup [.str "skip",.int 1])) a1 (.lst (rs1++ [.ref p]++ [.ref p1]++ [.ref p2]))=H7 at hA4⊢
 refine(dgr rfl hA4 (⟨_,rfl,_,rfl,_,rfl,_,_,rfl,rfl,lg (by decide) (by decide),H0,d,k,_,_,st',sl,rfl,hk,⟨a1,b1,c1,_,hA4⟩,hl,λr2 p3 H8 s8 hp3 hK2=> ?_⟩))
 have hA5:=(hA4.same s8).row (r:=r2) ⟨p3,rfl,hp3⟩
 refine⟨a1,_,.ref p3,rfl,rfl,(hA4.same s8).ha,big _ (by rw[<-hA4.hr.len];simp only[length_append,length_singleton];omega), ?_⟩
 generalize upd H8 a1 (.lst (rs1++ [.ref p]++ [.ref p1]++ [.ref p2]++ [.ref p3]))=H9 at hA5⊢
 refine(dgb rfl hA5 (⟨_,rfl,b1,_,_,rfl,rfl,hA5.hb,big _ (by rw[length_map];exact le_trans (le_trans hst hsl) (by decide)), ?_⟩))
 have hA6:=hA5.stk (st':=st'++ [k])
 rw[map_append]at hA6
 have er:rows2++ [.own (.unless 2)]++ [r1]++ [.own (.skip 1)]++ [r2]=rows2++ [.own (.unless 2),r1,.own (.skip 1),r2]:=by simp
 rw[er]at hA6
 refine q _ _ sl _ ⟨a1,b1,c1,_,hA6⟩ λhs=>⟨λps tys hg=> ?_, ?_, ?_, ?_,rfl,λh=>O2 h hsub (.inl hk)⟩
 ·obtain⟨tys',hg'⟩:=hT hs ps tys hg
  exact hg'.branch (hK1 hs) (hK2 hs)
 ·rw[length_append];simp only[length_cons,length_nil];omega
 ·have e1:=(hK1 hs).1
  have e2:=(hK2 hs).1
  have:wts [.own (.unless 2),r1,.own (.skip 1),r2]=0:=by
   show 0+(wt r1+(0+(wt r2+0)))=0
   omega
  rw[K9,hw,this]
  exact le_succ _
 ·rw[length_append];exact succ_le_succ hst
end
noncomputable abbrev s_law_slotted:Stmt:=CL.top 42
noncomputable abbrev AA:List Str:=["_law_state","_law_more","_law_known","_law_slot"]
theorem sc_law_slotted:FnScope AA DU (A9 s_law_slotted):=fS
theorem bnZ(hs:Hs)(rows:List Rw)(st:List Kd)(sl:List (Option Kd)):Pc hs rows st sl rows st sl:=⟨λ_ tys h=>⟨tys,h⟩,le_add_right _ _,le_add_right _ _,le_add_right _ _,rfl,λh=>h⟩
theorem DZ{α:Type}{l:List α}(h:l≠ []):∃r x,l=r++ [x]:=⟨_,_,(List.dropLast_concat_getLast h).symm⟩
theorem big_(n:Nat)(h:n<=950):n<sizeLine:=lt_of_le_of_lt h (by decide)
section
variable{P:Program}{w:World}{K:FZ}{mg:Str->Option Value}{base:Heap}{f:Addr}{fd:FuncData}
theorem ok_law_slotted(F:Fun K "_law_slotted" "_law_slotted" s_law_slotted f fd)(B:BV.NoG mg):
  FnOk P w K mg base CX0 1 f fd DU NI:=by
 refine F.ok sc_law_slotted (λvs H Q E h=> ?_) (λcdv A outer s H vs Q E hr h=> ?_)
 ·obtain⟨H0,d,more,rows,st,sl,rfl,_⟩:=h
  rfl
 obtain⟨H0,d,more,rows,st,sl,rfl,⟨a,b,c,rs,hA⟩,hl3,hl,hsl,hrl,hgs,q⟩:=h
 have nd:=sc_law_slotted.nd
 have hu:=hr.units0
 refine⟨_,(A6 (S6 (i:=2) nd rfl rfl (cS (N:=AA) (sc:=A9 s_law_slotted) (caps:=[0]) (ns:=["_law_state"])) rfl rfl rfl (L9 rfl B.range_ (A0 (B9 (J9 (K:=K)) rfl B.len_ E8 (A0 (C7 (lt_of_le_of_lt (add_le_add_left (by decide:1<=64) _) hr.units) (pv 0) A8 (λ_ _=>rfl)) A4)) A4)) (λ_ _ _ _ _=>(TH (B2 EA (ixE K w (C7 (lt_of_le_of_lt (add_le_add_left (by decide:1<=64) _) hr.units) (pv 1) A8 (λ_ _=>rfl)) (pv 0)) N7 rfl))) (λ_ _ _ _ _=>(pv 0)))
   (A7 (D8 (C8 (PW.pt (JY (B2 (kEq (K:=K) hu) (B4 D7 (pv 1) A5) A5 rfl) (EC (B2 (VL (K:=K) hu) (C7 (lt_of_le_of_lt (add_le_add_left (by decide:1<=64) _) hr.units) (pv 0) A8 (λ_ _=>rfl)) (D4 A4) rfl)))) (A6 (C5 (i:=3) nd rfl (Or.inl rfl) (B4 P2 (B4 P2 (B9 (J9 (K:=K)) rfl B.len_ E8 (A0 (C7 (lt_of_le_of_lt (add_le_add_left (by decide:1<=64) _) hr.units) (pv 0) A8 (λ_ _=>rfl)) A4)) A5) (B4 D7 (B4 D1 (pv 1) A5) A5)))
   (A6 (P8 (IF (K:=K) PySem.F.plainAttrs_list PySem.F.slot_list_pop PySem.F.type_list_pop FC (C7 (lt_of_le_of_lt (add_le_add_left (by decide:1<=64) _) hr.units) (pv 0) A8 (λ_ _=>rfl))) (W3 (C7 (lt_of_le_of_lt (add_le_add_left (by decide:1<=64) _) hr.units) (pv 0) A8 (λ_ _=>rfl)) (pv 3) S8))
   (A7 (C0 (M9 (K:=K) PySem.F.plainAttrs_list PySem.F.slot_list_append PySem.F.type_list_append C3 (C7 (lt_of_le_of_lt (add_le_add_left (by decide:1<=64) _) hr.units) (pv 0) A8 (λ_ _=>rfl)) (A0 (B7 (A0 A8 (A0 (pv 3) A4))) A4)))))) (A7 (D8 (C8 (B2 (VL (K:=K) hu) (pv 2) (D4 A4) rfl) (A6 (C5 (i:=3) nd rfl (Or.inl rfl) (ixE K w (pv 2) (B4 D7 (B4 D1 (pv 1) A5) (B9 (J9 (K:=K)) rfl B.len_ E8 (A0 (pv 2) A4)))))
   (A6 (C0 (M9 (K:=K) PySem.F.plainAttrs_list PySem.F.slot_list_append PySem.F.type_list_append C3 (C7 (lt_of_le_of_lt (add_le_add_left (by decide:1<=64) _) hr.units) (pv 0) A8 (λ_ _=>rfl)) (A0 (B7 (A0 A8 (A0 (pv 3) A4))) A4)))
   (A7 (C0 (M9 (K:=K) PySem.F.plainAttrs_list PySem.F.slot_list_append PySem.F.type_list_append C3 (C7 (lt_of_le_of_lt (add_le_add_left (by decide:1<=64) _) hr.units) (pv 0) A8 (λ_ _=>rfl)) (A0 (ixE K w (C7 (lt_of_le_of_lt (add_le_add_left (by decide:1<=64) _) hr.units) (pv 0) A8 (λ_ _=>rfl)) (pv 3)) A4)))))) C1))))))), ?_⟩
 refine⟨_,rfl,d,.ref c,rfl,hA.gc,_,_,rfl,.inl ⟨_,SqL.of hA.hc,rfl⟩,(sl.length:Nat),(by rw[length_map]),by omega,by omega,O5 (n:=sl.length) (λi ys H'=>H'=H/\∃js:List Nat,ys=js.map (λj=>V.int (j:Nat))/\js.length<=i/\∀j∈js,∃k,sl[j]? =some (some k)) ⟨rfl,[],rfl,le_refl _,λj hj=>(nomatch hj)⟩ ?_ ?_ ?_⟩
 ·rintro i ys H' hi ⟨rfl,js,rfl,hj,_⟩
  rw[length_map]
  exact le_trans (le_trans hj (le_trans hi hl)) (by decide)
 ·rintro i ys H' hi ⟨rfl,js,rfl,hj,hjs⟩
  have hx:(sl.map ov)[i]? =some (ov sl[i]):=by rw[getElem?_map,List.getElem?_eq_getElem hi];rfl
  refine⟨_,rfl,d,.ref c,rfl,hA.gc,_,rfl,.inl ⟨c,_,(i:Nat),_,rfl,(by rw[Int.zero_add]),SqL.of hA.hc,C9 hx,rfl,_,rfl, ?_⟩⟩
  cases e:sl[i]with
  |some k=>
   refine ifT rfl ⟨_,rfl,rfl,js++ [i], ?_, ?_,λj hj'=> ?_⟩
   ·rw[map_append,Int.zero_add];rfl
   ·rw[length_append];exact succ_le_succ hj
   ·rcases mem_append.mp hj' with h|h
    ·exact hjs j h
    ·exact⟨k,by rw[sZ h,List.getElem?_eq_getElem hi,e]⟩
  |none=>exact ifF (by decide) ⟨rfl,js,rfl,le_succ_of_le hj,hjs⟩
 rintro ys H' ⟨rfl,js,rfl,hj,hjs⟩
 intro D hD
 have s1:=A3 hD (.lst (js.map λj=>V.int (j:Nat)))
 have hL:upd H' D (.lst (js.map λj=>V.int (j:Nat))) D=some (.lst (js.map λj=>V.int (j:Nat))):=A2
 generalize upd H' D (.lst (js.map λj=>V.int (j:Nat)))=H1 at s1 hL⊢
 have hA1:=hA.same s1
 refine⟨fun σ' H'=>∃rows' st' sl',StA H0 H' d rows' st' sl'/\∀hs,Pc hs rows st sl rows' st' sl', ?_,fun σ' H' ⟨rows',st',sl',h1,h2⟩=>q rows' st' sl' H' h1 h2⟩
 refine⟨_,rfl,_,_,rfl,rfl,(by decide:(0:Int)<2),.inl ⟨rfl,_,rfl, ?_⟩⟩
 by_cases c1:more%2=0
 ·refine ifT (decide_eq_true (congrArg V.int c1)) ⟨_,rfl,d,.ref b,rfl,hA1.gb,zero_le _,λe he=> ?_⟩
  have s2:=A3 he (.lst [])
  have hA2:=hA1.same s2
  have hL2:=s2 _ _ hL
  by_cases c2:st=[]
  ·subst c2
   refine .inl ⟨b,e,[],rfl,rfl,SqL.of hA2.hb,SqL.of A2,rfl,_,rfl,ifF (by decide) ?_⟩
   generalize upd H1 e (.lst [])=H2 at s2 hA2 hL2⊢
   clear s2 hA1 hL
   refine⟨fun σ' H'=>∃rows' st' sl',StA H0 H' d rows' st' sl'/\∀hs,Pc hs rows [] sl rows' st' sl',⟨_,rfl,zero_le _,λe2 he2=> ?_⟩,λ_ _ h=>h⟩
   have s3:=A3 he2 (.lst [])
   have hA3:=hA2.same s3
   have hL3:=s3 _ _ hL2
   by_cases c3:js=[]
   ·subst c3
    exact .inl ⟨D,e2,[],rfl,rfl,SqL.of hL3,SqL.of A2,rfl,_,rfl,ifF (by decide) ⟨rows,_,sl,⟨a,b,c,rs,hA3⟩,λhs=>bnZ ..⟩⟩
   ·have hpos:0<js.length:=List.length_pos_iff.mpr c3
    refine .inr ⟨D,e2,_,_,rfl,rfl,SqL.of hL3,SqL.of A2,(by rw[length_map];show js.length≠0;omega),_,rfl,ifT rfl ?_⟩
    generalize upd H2 e2 (.lst [])=H3 at s3 hA3 hL3⊢
    obtain⟨i,(ei:more.fdiv 2%(js.length:Nat)=(i:Int)),hi⟩:=U3 (more.fdiv 2) hpos
    obtain⟨k,hk⟩:=hjs _ (getElem_mem hi)
    have hx:(js.map λj=>V.int (j:Nat))[i]? =some (.int (js[i]:Nat)):=by rw[getElem?_map,List.getElem?_eq_getElem hi];rfl
    refine⟨_,rfl,_,rfl,_,_,rfl,rfl,lg (by decide) (by decide),_,rfl,_,_,rfl,.inl ⟨_,SqL.of hL3,rfl⟩,_,_,rfl,rfl,(by rw[length_map];omega),.inl ⟨D,_,(i:Int),_,rfl,(by rw[length_map];exact congrArg V.int ei),SqL.of hL3,C9 hx, ?_⟩⟩
    refine(dgr rfl hA3 (⟨_,rfl,z2,λp hp=> ?_⟩))
    have hA5:=(hA3.same (A3 hp (.tup [.str "load",.int (js[i]:Nat)]))).row (r:=.own (.load js[i])) ⟨p,rfl,A2⟩
    refine⟨a,rs,.ref p,rfl,rfl,(A3 hp _) _ _ hA3.ha,big_ _ (by rw[<-hA.hr.len];omega), ?_⟩
    generalize upd (upd H3 p (.tup [.str "load",.int (js[i]:Nat)])) a (.lst (rs++ [.ref p]))=H5 at hA5⊢
    have hy:(sl.map ov)[js[i]]? =some (kv k):=by rw[getElem?_map,hk];rfl
    refine(dgb rfl hA5 (⟨_,rfl,d,.ref c,rfl,hA5.gc,_,rfl,(ixL hA5.hc (C9 hy) ⟨b,_,_,rfl,rfl,hA5.hb,big_ _ (by rw[length_map];omega), ?_⟩)⟩))
    have hA6:=hA5.stk (st':=[]++ [k])
    rw[map_append]at hA6
    refine⟨_,_,sl,⟨a,b,c,_,hA6⟩,λhs=>⟨λps tys hg=>⟨_,hg.push (CO hk)⟩, ?_, ?_, ?_,rfl,λh=>O2 h (λ_ z=>z) (h.2 k (mem_of_getElem? hk))⟩⟩
    ·rw[length_append];simp only[length_singleton];omega
    ·rw[K9];exact le_succ _
    ·rw[length_append];exact le_refl _
  ·obtain⟨st0,k,rfl⟩:=DZ c2
   refine .inr ⟨b,e,_,_,rfl,rfl,SqL.of hA2.hb,SqL.of A2,(by rw[length_map];show(st0++ [k]).length≠0;rw[length_append];simp),_,rfl,ifT rfl ?_⟩
   generalize upd H1 e (.lst [])=H2 at s2 hA2 hL2⊢
   obtain⟨m3,(em3:more.fdiv 2%3=(m3:Int)),hm3⟩:=U3 (more.fdiv 2) (m:=3) (by decide)
   have lsl:(sl.map ov).length=sl.length:=length_map ..
   refine⟨_,rfl,d,.ref c,rfl,hA2.gc,_,_,rfl,.inl ⟨_,SqL.of hA2.hc,rfl⟩,_,_,rfl,rfl,_,rfl,_,_,rfl,rfl,lg (by decide) (by decide),_,_,rfl,rfl,(by decide:(0:Int)<3),_,_,rfl,rfl, ?_⟩
   show M0 _ _ _ [some (.ref d),some (.int more),some (.ref D),some (.int (((sl.map ov).length:Nat) - 1 - more.fdiv 2%3))] H2
   obtain⟨sn,esn,hsn⟩:∃sn:Nat,(((sl.map ov).length:Nat):Int) - 1 - more.fdiv 2%3=(sn:Int)/\sn<sl.length:=⟨sl.length - 1 - m3,by rw[lsl,em3];omega,by omega⟩
   rw[esn]
   have hlast:((st0++ [k]).map kv)[((st0++ [k]).map kv).length - 1]? =some (kv k):=by
    rw[map_append,length_append];simp
   refine⟨_,rfl,d,.ref b,rfl,hA2.gb,.inl ⟨rfl,_,SqL.of hA2.hb⟩,b,_,kv k,rfl,rfl,hA2.hb,hlast, ?_⟩
   have hA3:=hA2.stk (st':=st0)
   have ed:((st0++ [k]).map kv).dropLast=st0.map kv:=by rw[map_append];exact List.dropLast_concat
   rw[ed]
   have hix:ixN (sl.map ov).length (sn:Int)=some sn:=by
    unfold ixN
    rw[lsl,if_pos (by omega)]
    simp[hsn]
   refine⟨_,rfl,d,.ref c,rfl,hA3.gc,_,rfl,c,_,(sn:Int),sn,rfl,rfl,hA3.hc,hix, ?_⟩
   have hA4:=hA3.slt (sl':=sl.take sn++ [some k]++sl.drop (sn+1))
   have es:(sl.map ov).set sn (kv k)=(sl.take sn++ [some k]++sl.drop (sn+1)).map ov:=by
    rw[List.set_eq_take_append_cons_drop,if_pos (by rw[lsl];exact hsn),<-List.map_take,<-map_drop]
    simp[ov]
   rw[es]
   generalize upd (upd H2 b (.lst (st0.map kv))) c (.lst ((sl.take sn++ [some k]++sl.drop (sn+1)).map ov))=H4 at hA4⊢
   refine(dgr rfl hA4 (⟨_,rfl,z2,λp hp=> ?_⟩))
   have hA5:=(hA4.same (A3 hp (.tup [.str "keep",.int (sn:Nat)]))).row (r:=.own (.keep sn)) ⟨p,rfl,A2⟩
   refine⟨a,rs,.ref p,rfl,rfl,(A3 hp _) _ _ hA4.ha,big_ _ (by rw[<-hA.hr.len];omega),_,st0,_,⟨a,b,c,_,hA5⟩,λhs=>⟨λps tys hg=>⟨_,hg.one (λtold ty i e=> .keep hsn e) ?_ ?_⟩, ?_, ?_, ?_, ?_,λh=>⟨λx hx=>h.1 x (mem_append_left _ hx),λx hx=> ?_⟩⟩⟩
   ·rw[length_append];omega
   ·simp only[length_append,length_take,length_drop,length_singleton];omega
   ·rw[length_append];simp only[length_singleton];omega
   ·rw[K9];exact le_succ _
   ·rw[length_append];omega
   ·simp only[length_append,length_take,length_drop,length_singleton];omega
   ·rcases mem_append.mp hx with hx|hx
    ·rcases mem_append.mp hx with hx|hx
     ·exact h.2 x (List.mem_of_mem_take hx)
     ·cases sZ hx
      exact h.1 k (mem_append_right _ (mem_singleton.mpr rfl))
    ·exact h.2 x (List.mem_of_mem_drop hx)
 ·refine ifF (λz=>c1 (by have:=of_decide_eq_true z;injection this)) (ifF (by decide) ?_)
  have hA2:=hA1
  have hL2:=hL
  generalize H1=H2 at hA2 hL2⊢
  clear hA1 hL s1
  refine⟨fun σ' H'=>∃rows' st' sl',StA H0 H' d rows' st' sl'/\∀hs,Pc hs rows st sl rows' st' sl',⟨_,rfl,zero_le _,λe2 he2=> ?_⟩,λ_ _ h=>h⟩
  have s3:=A3 he2 (.lst [])
  have hA3:=hA2.same s3
  have hL3:=s3 _ _ hL2
  by_cases c3:js=[]
  ·subst c3
   exact .inl ⟨D,e2,[],rfl,rfl,SqL.of hL3,SqL.of A2,rfl,_,rfl,ifF (by decide) ⟨rows,_,sl,⟨a,b,c,rs,hA3⟩,λhs=>bnZ ..⟩⟩
  ·have hpos:0<js.length:=List.length_pos_iff.mpr c3
   refine .inr ⟨D,e2,_,_,rfl,rfl,SqL.of hL3,SqL.of A2,(by rw[length_map];show js.length≠0;omega),_,rfl,ifT rfl ?_⟩
   generalize upd H2 e2 (.lst [])=H3 at s3 hA3 hL3⊢
   obtain⟨i,(ei:more.fdiv 2%(js.length:Nat)=(i:Int)),hi⟩:=U3 (more.fdiv 2) hpos
   obtain⟨k,hk⟩:=hjs _ (getElem_mem hi)
   have hx:(js.map λj=>V.int (j:Nat))[i]? =some (.int (js[i]:Nat)):=by rw[getElem?_map,List.getElem?_eq_getElem hi];rfl
   refine⟨_,rfl,_,rfl,_,_,rfl,rfl,lg (by decide) (by decide),_,rfl,_,_,rfl,.inl ⟨_,SqL.of hL3,rfl⟩,_,_,rfl,rfl,(by rw[length_map];omega),.inl ⟨D,_,(i:Int),_,rfl,(by rw[length_map];exact congrArg V.int ei),SqL.of hL3,C9 hx, ?_⟩⟩
   refine(dgr rfl hA3 (⟨_,rfl,z2,λp hp=> ?_⟩))
   have hA5:=(hA3.same (A3 hp (.tup [.str "load",.int (js[i]:Nat)]))).row (r:=.own (.load js[i])) ⟨p,rfl,A2⟩
   refine⟨a,rs,.ref p,rfl,rfl,(A3 hp _) _ _ hA3.ha,big_ _ (by rw[<-hA.hr.len];omega), ?_⟩
   generalize upd (upd H3 p (.tup [.str "load",.int (js[i]:Nat)])) a (.lst (rs++ [.ref p]))=H5 at hA5⊢
   have hy:(sl.map ov)[js[i]]? =some (kv k):=by rw[getElem?_map,hk];rfl
   refine(dgb rfl hA5 (⟨_,rfl,d,.ref c,rfl,hA5.gc,_,rfl,(ixL hA5.hc (C9 hy) ⟨b,_,_,rfl,rfl,hA5.hb,big_ _ (by rw[length_map];omega), ?_⟩)⟩))
   have hA6:=hA5.stk (st':=st++ [k])
   rw[map_append]at hA6
   refine⟨_,_,sl,⟨a,b,c,_,hA6⟩,λhs=>⟨λps tys hg=>⟨_,hg.push (CO hk)⟩, ?_, ?_, ?_,rfl,λh=>O2 h (λ_ z=>z) (h.2 k (mem_of_getElem? hk))⟩⟩
   ·rw[length_append];simp only[length_singleton];omega
   ·rw[K9];exact le_succ _
   ·rw[length_append];exact le_refl _
end
noncomputable abbrev s_law_listed:Stmt:=CL.top 40
noncomputable abbrev KM:List Str:=["_law_state","_law_more","_law_kind","_law_part","_law_way"]
theorem sc_law_listed:FnScope KM DU (A9 s_law_listed):=fS
theorem buZ(a b:Kd):eqV (kv a) (kv b)=decide (a.tx=b.tx):=by
 show(a.tx==b.tx)=_
 rfl
theorem XU(k:Kd):inV (kv k) [.str "l",.str "L",.str "F"]=true↔k=.l\/k=.L\/k=.F:=by
 rw[v_l,v_L,v_F]
 unfold inV
 simp only[any_cons,List.any_nil,Bool.or_false,Bool.or_eq_true,buZ,decide_eq_true_eq]
 constructor
 ·intro h
  rcases h with h|h|h
  ·exact .inl (BZ h).symm
  ·exact .inr (.inl (BZ h).symm)
  ·exact .inr (.inr (BZ h).symm)
 ·intro h
  rcases h with rfl|rfl|rfl
  ·exact .inl rfl
  ·exact .inr (.inl rfl)
  ·exact .inr (.inr rfl)
theorem YJ(n:Nat):ixN (n+1) (-1)=some n:=by
 unfold ixN
 rw[if_neg (by decide),if_pos (by omega)]
 congr 1
 omega
theorem JS(st0:List Kd)(k:Kd):atI ((st0++ [k]).map kv) (-1)=some (kv k):=by rw[map_append];exact G0 _ _
theorem SZ(st0:List Kd)(k:Kd):ixN ((st0++ [k]).map kv).length (-1)=some st0.length:=by rw[length_map,length_append];exact YJ _
theorem NA(st0:List Kd)(k k':Kd):((st0++ [k]).map kv).set st0.length (kv k')=(st0++ [k']).map kv:=by
 rw[map_append,map_append,List.set_append_right _ _ (by rw[length_map];exact le_refl _),length_map,Nat.sub_self]
 rfl
theorem ZU{p k:Kd}(h:Prt p k):Gd p:=by
 cases h with
 |l=>exact .inl (.inl rfl)
 |L=>exact .inl (.inr (.inr (.inl rfl)))
 |F=>exact .inr ⟨.n,rfl,.inl rfl⟩
theorem anZ{p k:Kd}(h:Prt p k):Gd k:=by
 cases h with
 |l=>exact .inl (.inr (.inr (.inl rfl)))
 |L=>exact .inl (.inr (.inr (.inr (.inl rfl))))
 |F=>exact .inl (.inr (.inr (.inr (.inr rfl))))
theorem cXZ{j:Nat}(h:j<3)(p k:Kd): [V.str "head",V.str "tail",V.str "empty"][j]? =some (.str ([("head":Str),"tail","empty"].getD j ""))/\∃rk k',rwV (.own rk)=[.str ([("head":Str),"tail","empty"].getD j "")]/\[kv p,kv k,.str "t"][j]? =some (kv k')/\wt (.own rk)=0/\(Prt p k->∀(hs:Hs) (told:Kd) (ty:List At) (i:Nat) (st:List Kd) (sl:List (Option Kd)),ty[i+1]? =some ⟨st++ [k'],sl⟩->RowK hs told ty i (.own rk) ⟨st++ [k],sl⟩)/\(Prt p k->Gd k'):=by
 match j,h with
 |0,_=>exact⟨rfl,.head,p,rfl,rfl,rfl,λhp _ _ _ _ _ _ e=> .head hp e,ZU⟩
 |1,_=>exact⟨rfl,.tail,k,rfl,rfl,rfl,λhp _ _ _ _ _ _ e=> .tail hp e,anZ⟩
 |2,_=>exact⟨rfl,.empty,.t,rfl,by rw[v_t];rfl,rfl,λhp _ _ _ _ _ _ e=> .empty hp e,λ_=> .inl (.inr (.inl rfl))⟩
section
variable{P:Program}{w:World}{K:FZ}{mg:Str->Option Value}{base:Heap}{f S3 N4:Addr}{fd S0 N5:FuncData}
theorem ok_law_listed(F:Fun K "_law_listed" "_law_listed" s_law_listed f fd)
  (J5:Cn P w K mg base CX0 2 "_law_push" ZE JW)
  (D5:Cn P w K mg base CX0 3 "_law_want" QF CN):
  FnOk P w K mg base CX0 4 f fd DU NI:=by
 obtain⟨S3,S0,J5,P7,P5,P6⟩:=J5
 obtain⟨N4,N5,D5,K3,K2,K1⟩:=D5
 refine F.ok sc_law_listed (λvs H Q E h=> ?_) (λcdv A outer s H vs Q E hr h=> ?_)
 ·obtain⟨H0,d,more,rows,st,sl,rfl,_⟩:=h
  rfl
 obtain⟨H0,d,more,rows,st,sl,rfl,⟨a,b,c,rs,hA⟩,hl3,hl,hsl,hrl,hgs,q⟩:=h
 have nd:=sc_law_listed.nd
 have hu:=hr.units0
 refine⟨_,(A6 (D8 (C5 (i:=2) nd rfl (Or.inl rfl) (Q4 (B2 (VL (K:=K) hu) (C7 (lt_of_le_of_lt (add_le_add_left (by decide:1<=64) _) hr.units) (pv 0) A8 (λ_ _=>rfl)) (D4 A4) rfl) (ixE K w (C7 (lt_of_le_of_lt (add_le_add_left (by decide:1<=64) _) hr.units) (pv 0) A8 (λ_ _=>rfl)) (J0 E4 A5)) A8)))
   (A6 (C8 (B2 (kEq (K:=K) hu) (pv 2) A8 rfl) (A6 (C0 (M9 (K:=K) PySem.F.plainAttrs_list PySem.F.slot_list_append PySem.F.type_list_append C3 (C7 (lt_of_le_of_lt (add_le_add_left (by decide:1<=64) _) hr.units) (pv 0) A8 (λ_ _=>rfl)) (A0 (B1 J5 (hr.mono (by omega)) rfl P6 P5 P7 .nil B8 (A0 (pv 0) (A0 A8 (A0 (B4 D1 (pv 1) A5) A4)))) A4)))
   (A6 (C0 (M9 (K:=K) PySem.F.plainAttrs_list PySem.F.slot_list_append PySem.F.type_list_append C3 (C7 (lt_of_le_of_lt (add_le_add_left (by decide:1<=64) _) hr.units) (pv 0) A8 (λ_ _=>rfl)) (A0 (B7 (A0 A8 A4)) A4)))
   (A6 (P8 A8 (W3 (C7 (lt_of_le_of_lt (add_le_add_left (by decide:1<=64) _) hr.units) (pv 0) A8 (λ_ _=>rfl)) (J0 E4 A5) S8))
   (A7 W2)))) C1)
   (A6 (D8 (C5 (i:=2) nd rfl (Or.inl rfl) (Q4 (B2 (kIn (K:=K) (w:=w)) (pv 2) (B7 (A0 A8 (A0 A8 (A0 A8 A4)))) rfl) (pv 2) (FE ix_str A8 (B4 D7 (pv 1) A5) (λ_ _=>rfl)))))
   (A6 (D8 (C5 (i:=3) nd rfl (Or.inl rfl) (C7 (lt_of_le_of_lt (add_le_add_left (by decide:1<=64) _) hr.units) (SO (U4 A8 A8 (U4 A8 A8 (U4 A8 A8 RQ))) rfl rfl (by simp) (by decide)) (pv 2) (λ_ _=>rfl))))
   (A6 (C5 (i:=4) nd rfl (Or.inl rfl) (B4 D7 (B4 D1 (pv 1) A5) A5))
   (A6 (D8 (C8 (PW.pt (JY (B2 SJ (pv 4) A5 rfl) (EC (B2 (kNe (K:=K) hu) (pv 2) A8 rfl)))) (A6 (C0 (B1 D5 (hr.mono (by omega)) rfl K1 K2 K3 .nil B8 (A0 (pv 0) (A0 (D4 (A0 (pv 3) (A0 (pv 2) A4))) (A0 (B4 D1 (pv 1) A5) A4)))))
   (A6 (C0 (M9 (K:=K) PySem.F.plainAttrs_list PySem.F.slot_list_append PySem.F.type_list_append C3 (C7 (lt_of_le_of_lt (add_le_add_left (by decide:1<=64) _) hr.units) (pv 0) A8 (λ_ _=>rfl)) (A0 (B7 (A0 A8 A4)) A4)))
   (A6 (C0 (M9 (K:=K) PySem.F.plainAttrs_list PySem.F.slot_list_append PySem.F.type_list_append C3 (C7 (lt_of_le_of_lt (add_le_add_left (by decide:1<=64) _) hr.units) (pv 0) A8 (λ_ _=>rfl)) (A0 (pv 2) A4)))
   (A7 W2)))) C1))
   (A6 (C0 (B1 D5 (hr.mono (by omega)) rfl K1 K2 K3 .nil B8 (A0 (pv 0) (A0 (D4 (A0 (pv 2) A4)) (A0 (B4 D1 (pv 1) A5) A4)))))
   (A6 (C0 (M9 (K:=K) PySem.F.plainAttrs_list PySem.F.slot_list_append PySem.F.type_list_append C3 (C7 (lt_of_le_of_lt (add_le_add_left (by decide:1<=64) _) hr.units) (pv 0) A8 (λ_ _=>rfl)) (A0 (B7 (A0 (ixE K w (D4 (A0 A8 (A0 A8 (A0 A8 A4)))) (B4 D7 (pv 4) A5)) A4)) A4)))
   (A7 (C0 (M9 (K:=K) PySem.F.plainAttrs_list PySem.F.slot_list_append PySem.F.type_list_append C3 (C7 (lt_of_le_of_lt (add_le_add_left (by decide:1<=64) _) hr.units) (pv 0) A8 (λ_ _=>rfl)) (A0 (ixE K w (D4 (A0 (pv 3) (A0 (pv 2) (A0 A8 A4)))) (B4 D7 (pv 4) A5)) A4)))))))))))), ?_⟩
 refine⟨fun σ' H'=>∃k,σ'=[some (.ref d),some (.int more),some (kv k),none,none]/\SA H0 H' d a b c rs rows st sl/\(k=.l\/∃st0,st=st0++ [k]), ?_, ?_⟩
 ·refine⟨_,rfl,d,.ref b,rfl,hA.gb,zero_le _,λe he=> ?_⟩
  have s2:=A3 he (.lst [])
  have hA2:=hA.same s2
  by_cases c2:st=[]
  ·subst c2
   refine .inl ⟨b,e,[],rfl,rfl,SqL.of hA2.hb,SqL.of A2,rfl,_,rfl,ifF (by decide) ⟨.l, ?_,hA2,.inl rfl⟩⟩
   rw[<-v_l];rfl
  ·obtain⟨st0,k,rfl⟩:=DZ c2
   exact .inr ⟨b,e,_,_,rfl,rfl,SqL.of hA2.hb,SqL.of A2,(by rw[length_map];show(st0++ [k]).length≠0;rw[length_append];simp),_,rfl,ifT rfl ⟨_,rfl,d,.ref b,rfl,hA2.gb,_,rfl,(ixL hA2.hb (JS st0 k) ⟨k,rfl,hA2,.inr ⟨st0,rfl⟩⟩)⟩⟩
 clear hA
 rintro _ H1 ⟨k,rfl,hA,hk⟩
 refine⟨_,rfl,.inl ⟨rfl,_,rfl, ?_⟩⟩
 by_cases e:k=.fn .n
 ·subst e
  obtain⟨st0,rfl⟩:∃st0,st=st0++ [.fn .n]:=hk.resolve_left (λz=>nomatch z)
  refine ifT (decide_eq_true v_fn.symm) (dgr rfl hA (⟨_,rfl,_,rfl,_,_,rfl,rfl,lg (by decide) (by decide),H0,d,.F,_,rows,_,sl,congrArg (λz=> [V.ref d,z,V.int _]) v_F,.inr (.inr (.inr (.inr rfl))),⟨a,b,c,rs,hA⟩,hl,λr1 p1 H5 s5 hp1 hK1=> ?_⟩))
  have hA3:=(hA.same s5).row (r:=r1) ⟨p1,rfl,hp1⟩
  refine⟨a,_,.ref p1,rfl,rfl,(hA.same s5).ha,big_ _ (by rw[<-hA.hr.len];omega), ?_⟩
  generalize upd H5 a (.lst (rs++ [.ref p1]))=H6 at hA3⊢
  refine(dgr rfl hA3 (⟨z1,λp2 hp2=> ?_⟩))
  have hA4:=(hA3.same (A3 hp2 (.tup [.str "cons"]))).row (r:=.own .cons) ⟨p2,rfl,A2⟩
  refine⟨a,_,.ref p2,rfl,rfl,(A3 hp2 _) _ _ hA3.ha,big_ _ (by rw[<-hA3.hr.len];simp only[length_append,length_singleton];omega), ?_⟩
  generalize upd (upd H6 p2 (.tup [.str "cons"])) a (.lst (rs++ [.ref p1]++ [.ref p2]))=H7 at hA4⊢
  refine⟨_,rfl,d,.ref b,rfl,hA4.gb,_,rfl,b,_, -1,_,rfl,rfl,hA4.hb,SZ st0 _, ?_⟩
  rw[v_F,NA]
  refine q _ _ sl _ ⟨a,b,c,_,hA4.stk (st':=st0++ [.F])⟩ λhs=>⟨λps tys hg=> ?_, ?_, ?_, ?_,rfl,λh=>O2 h (λx hx=>mem_append_left _ hx) (.inl (.inr (.inr (.inr (.inr rfl)))))⟩
  ·have h1:=hg.push (hK1 hs)
   rw[List.append_assoc]at h1
   exact⟨_,h1.one (λtold ty i e=> .cons .F e) (by simp only[length_append,length_cons,length_nil];omega) rfl⟩
  ·simp only[length_append,length_singleton];omega
  ·have e1:=(hK1 hs).1
   have e2:wts [r1]=0:=by show wt r1+0=0;rw[e1]
   rw[K9,K9,e2]
   exact le_refl _
  ·simp only[length_append,length_singleton];omega
 refine ifF (λz=>e (KE ((of_decide_eq_true z).trans v_fn))) ?_
 refine⟨fun σ' H'=>∃k,σ'=[some (.ref d),some (.int more),some (kv k),none,none]/\SA H0 H' d a b c rs rows st sl/\(k=.l\/k=.L\/k=.F), ?_, ?_⟩
 ·refine⟨_,rfl,z3,λt ht=> .inr (.inl ⟨t,_,rfl,.inr (SqT.of A2),rfl,rfl,_,rfl, ?_⟩)⟩
  have hA2:=hA.same (A3 ht (.tup [.str "l",.str "L",.str "F"]))
  by_cases e2:k=.l\/k=.L\/k=.F
  ·exact ifT ((XU k).mpr e2) ⟨_,rfl,k,rfl,hA2,e2⟩
  ·obtain⟨j,(ej:more%2=(j:Int)),hj⟩:=U3 more (m:=2) (by decide)
   have hcc:∃cc k',("lL":Str).cps.toList[j]? =some cc/\V.str ⟨#[cc]⟩=kv k'/\(k'=.l\/k'=.L\/k'=.F):=by
    have e:("lL":Str).cps.toList=[108,76]:=by decide +kernel
    rw[e]
    match j,hj with
    |0,_=>exact⟨_,.l,rfl,rfl,.inl rfl⟩
    |1,_=>exact⟨_,.L,rfl,rfl,.inr (.inl rfl)⟩
   obtain⟨cc,k',t2,t3,hk'⟩:=hcc
   refine ifF (λz=>e2 ((XU k).mp z)) ⟨_,rfl,_,_,rfl,rfl,(by decide:(0:Int)<2),_,(j:Int),cc,rfl,congrArg V.int ej,by decide +kernel,C9 t2,k', ?_,hA2,hk'⟩
   rw[<-t3];rfl
 clear hA hk e k
 rintro _ H2 ⟨k,rfl,hA,hk⟩
 refine⟨fun σ' H'=>∃p,σ'=[some (.ref d),some (.int more),some (kv k),some (kv p),none]/\SA H0 H' d a b c rs rows st sl/\Prt p k, ?_, ?_⟩
 ·intro dd hdd
  refine⟨A2,[(.inr "l",.str "n"),(.inr "L",.str "l"),(.inr "F",.str "fn")],rfl,(by decide:3<=15), ?_⟩
  have hA2:=hA.same (A3 hdd (.dK []))
  have hA3:SA H0 (upd (upd H2 dd (.dK [])) dd (.dK [(.inr "l",.str "n"),(.inr "L",.str "l"),(.inr "F",.str "fn")])) d a b c rs rows st sl:=by
   rw[KA]
   exact hA.same (A3 hdd _)
  have hD:upd (upd H2 dd (.dK [])) dd (.dK [(.inr "l",.str "n"),(.inr "L",.str "l"),(.inr "F",.str "fn")]) dd=some (.dK [(.inr "l",.str "n"),(.inr "L",.str "l"),(.inr "F",.str "fn")]):=A2
  rcases hk with rfl|rfl|rfl
  ·refine⟨_,rfl,dd,.str "n",rfl, ?_,.n,by rw[v_n];rfl,hA3,.l⟩
   rw[<-v_l];exact DGet.k (k:=.inr "l") hD
  ·refine⟨_,rfl,dd,.str "l",rfl, ?_,.l,by rw[v_l];rfl,hA3,.L⟩
   rw[<-v_L];exact DGet.k (k:=.inr "L") hD
  ·refine⟨_,rfl,dd,.str "fn",rfl, ?_,.fn .n,by rw[v_fn];rfl,hA3,.F⟩
   rw[<-v_F];exact DGet.k (k:=.inr "F") hD
 clear hA
 rintro _ H3 ⟨p,rfl,hA,hp⟩
 have hbk:Bas k:=by rcases hk with h|h|h;exact .inr (.inr (.inl h));exact .inr (.inr (.inr (.inl h)));exact .inr (.inr (.inr (.inr h)))
 obtain⟨wy,(ewy:more.fdiv 2%6=(wy:Int)),hwy⟩:=U3 (more.fdiv 2) (m:=6) (by decide)
 refine⟨_,rfl,_,_,rfl,rfl,lg (by decide) (by decide),_,_,rfl,rfl,(by decide:(0:Int)<6), ?_⟩
 show M0 _ _ _ [some (.ref d),some (.int more),some (kv k),some (kv p),some (.int (more.fdiv 2%6))] H3
 rw[ewy]
 refine⟨fun σ' H'=>σ'=[some (.ref d),some (.int more),some (kv k),some (kv p),some (.int (wy:Int))]/\H'=H3,⟨_,rfl,_,_,rfl,rfl,_,rfl, ?_⟩, ?_⟩
 ·by_cases c1:wy<3
  ·refine ifT (decide_eq_true (by omega)) ⟨_,rfl,.inl ⟨rfl,_,rfl, ?_⟩⟩
   by_cases c2:k=.F
   ·subst c2
    refine ifF ?_ ⟨rfl,rfl⟩
    rw[v_F,decide_eq_true rfl];decide
   ·refine ifT ?_ ?_
    ·rw[decide_eq_false λz=>c2 (KE (z.trans v_F))];rfl
    have hbp:Bas p:=by
     cases hp with
     |l=>exact .inl rfl
     |L=>exact .inr (.inr (.inl rfl))
     |F=>exact absurd rfl c2
    refine⟨_,rfl,_,rfl,_,rfl,z2,λl hl'=>⟨_,rfl,_,_,rfl,rfl,lg (by decide) (by decide),upd H0 l (.lst [kv p,kv k]),d,l,[p,k],_,rows,st,sl,rfl, ?_,A2,⟨a,b,c,rs,hA.base hl' _⟩,hl,by simp,le_trans hsl (by decide),le_trans hrl (by decide),λrows' st' H5 hS hT hlr hw hst hsub=> ?_⟩⟩
    ·intro x hx
     simp only[mem_cons,not_mem_nil,or_false]at hx
     rcases hx with rfl|rfl
     ·exact hbp
     ·exact hbk
    obtain⟨a1,b1,c1',rs1,hA1⟩:=hS
    replace hA1:=hA1.unbase (hA.n0 hl')
    simp only[length_cons,length_nil]at hlr
    refine(dgr rfl hA1 (⟨z1,λp2 hp2=> ?_⟩))
    have hA4:=(hA1.same (A3 hp2 (.tup [.str "cons"]))).row (r:=.own .cons) ⟨p2,rfl,A2⟩
    refine⟨a1,_,.ref p2,rfl,rfl,(A3 hp2 _) _ _ hA1.ha,big_ _ (by rw[<-hA1.hr.len];omega), ?_⟩
    generalize upd (upd H5 p2 (.tup [.str "cons"])) a1 (.lst (rs1++ [.ref p2]))=H7 at hA4⊢
    refine(dgb rfl hA4 (⟨_,rfl,b1,_,_,rfl,rfl,hA4.hb,big_ _ (by rw[length_map];exact le_trans (le_trans hst hsl) (by decide)), ?_⟩))
    have hA6:=hA4.stk (st':=st'++ [k])
    rw[map_append]at hA6
    refine q _ _ sl _ ⟨a1,b1,c1',_,hA6⟩ λhs=>⟨λps tys hg=> ?_, ?_, ?_, ?_,rfl,λh=>O2 h hsub (.inl hbk)⟩
    ·obtain⟨tys',hg'⟩:=hT hs ps tys hg
     exact⟨_,hg'.one (λtold ty i e=> .cons hp e) (by simp only[length_append,length_cons,length_nil];omega) rfl⟩
    ·rw[length_append];exact le_trans (succ_le_succ hlr) (add_le_add_left (by decide:3<=6) _)
    ·rw[K9,hw];exact le_refl _
    ·rw[length_append];exact succ_le_succ hst
  ·exact ifF (λz=>c1 (by have:=of_decide_eq_true z;omega)) (ifF (by decide) ⟨rfl,rfl⟩)
 rintro _ H' ⟨rfl,e⟩
 rw[e]
 clear e H'
 refine⟨_,rfl,_,rfl,z1,λl hl'=>⟨_,rfl,_,_,rfl,rfl,lg (by decide) (by decide),upd H0 l (.lst [kv k]),d,l,[k],_,rows,st,sl,rfl, ?_,A2,⟨a,b,c,rs,hA.base hl' _⟩,hl,by simp,le_trans hsl (by decide),le_trans hrl (by decide),λrows' st' H5 hS hT hlr hw hst hsub=> ?_⟩⟩
 ·intro x hx
  rw[sZ hx];exact hbk
 obtain⟨a1,b1,c1',rs1,hA1⟩:=hS
 replace hA1:=hA1.unbase (hA.n0 hl')
 simp only[length_singleton]at hlr
 obtain⟨j,(ej:(wy:Int)%3=(j:Int)),hj⟩:=U3 (wy:Int) (m:=3) (by decide)
 obtain⟨t1,rk,k',t2,t3,t4,t5,t6⟩:=cXZ hj p k
 refine(dgr rfl hA1 (⟨z3,λl3 h3=>⟨_,rfl,_,_,rfl,rfl,(by decide:(0:Int)<3),.inl ⟨l3,_,(j:Int),_,rfl,congrArg V.int ej,SqL.of A2,C9 t1,z1,λp2 hp2=> ?_⟩⟩⟩))
 have s3:=A3 h3 (.lst [.str "head",.str "tail",.str "empty"])
 have s4:=A3 hp2 (.tup [.str ([("head":Str),"tail","empty"].getD j "")])
 have hA2:=hA1.same (s3.trans s4)
 have hA3:=hA2.row (r:=.own rk) ⟨p2,rfl,by rw[A2,t2]⟩
 refine⟨a1,rs1,.ref p2,rfl,rfl,hA2.ha,big_ _ (by rw[<-hA1.hr.len];omega), ?_⟩
 generalize upd (upd (upd H5 l3 (.lst [.str "head",.str "tail",.str "empty"])) p2 (.tup [.str ([("head":Str),"tail","empty"].getD j "")])) a1 (.lst (rs1++ [.ref p2]))=H7 at hA3⊢
 refine(dgb rfl hA3 (⟨_,rfl,_,rfl,z3,λl4 h4=>⟨_,rfl,_,_,rfl,rfl,(by decide:(0:Int)<3),.inl ⟨l4,_,(j:Int),_,rfl,congrArg V.int ej,SqL.of A2,C9 t3, ?_⟩⟩⟩))
 have hA5:=hA3.same (A3 h4 (.lst [kv p,kv k,.str "t"]))
 refine⟨b1,_,_,rfl,rfl,hA5.hb,big_ _ (by rw[length_map];exact le_trans (le_trans hst hsl) (by decide)), ?_⟩
 have hA6:=hA5.stk (st':=st'++ [k'])
 rw[map_append]at hA6
 refine q _ _ sl _ ⟨a1,b1,c1',_,hA6⟩ λhs=>⟨λps tys hg=> ?_, ?_, ?_, ?_,rfl,λh=>O2 h hsub (t6 hp)⟩
 ·obtain⟨tys',hg'⟩:=hT hs ps tys hg
  exact⟨_,hg'.one (λtold ty i e=>t5 hp hs told ty i _ _ e) (by simp only[length_append,length_singleton];omega) rfl⟩
 ·rw[length_append];exact le_trans (succ_le_succ hlr) (add_le_add_left (by decide:2<=6) _)
 ·have:wts [.own rk]=0:=by show wt (.own rk)+0=0;rw[t4]
  rw[K9,hw,this];exact le_succ _
 ·rw[length_append];exact succ_le_succ hst
end
noncomputable abbrev s_law_calling:Stmt:=CL.top 43
noncomputable abbrev HB:List Str:=["_law_state","_law_more","_law_heads_here","_law_b","_law_params","_law_told"]
theorem sc_law_calling:FnScope HB cqZ (A9 s_law_calling):=fS
noncomputable def d4Z(H:Hp)(h:List Kd×Kd)(u:V):Prop:=∃t lp,u=.ref t/\H t=some (.tup [.ref lp,kv h.2])/\H lp=some (.lst (h.1.map kv))
noncomputable def b7Z(H:Hp)(hp:Addr)(hs:Hs):Prop:=∃us,H hp=some (.lst us)/\All2 (d4Z H) hs us
noncomputable def YR(hs:Hs):Prop:=∀h∈hs,h.1.length<=3/\(∀k∈h.1,Bas k)/\Bas h.2
theorem v_f:V.str "f"=V.str ⟨#[102]⟩:=congrArg V.str (by decide +kernel)
theorem cut_m(xs:List V)(v:V):G9 (xs++ [v]) none (some (-1))=xs:=by
 have h:HT.sIx (xs++ [v]).length (xs++ [v]).length (some (-1))=xs.length:=by
  show(if(-1:Int)<0 then((-1:Int)+((xs++ [v]).length:Nat)).toNat else min (-1:Int).toNat (xs++ [v]).length)=xs.length
  rw[if_pos (by decide)]
  simp
  omega
 unfold G9
 rw[h,HT.sIx_none]
 simp
theorem c4Z{k':Kd}(h:Bas k'):V.str (Txt.slice (Kd.fn k').tx (some 1) none)=kv k':=by
 rcases h with rfl|rfl|rfl|rfl|rfl<;>exact congrArg V.str (by decide +kernel)
theorem dlZ{k':Kd}(h:Bas k'):V.str (("f":Str)++k'.tx)=kv (.fn k'):=by
 rcases h with rfl|rfl|rfl|rfl|rfl<;>exact congrArg V.str (by decide +kernel)
theorem dwZ{k':Kd}(h:Bas k'):("f":Str).length+k'.tx.length<=sizeLine:=by
 have:("f":Str).length+k'.tx.length<=2:=by rcases h with rfl|rfl|rfl|rfl|rfl<;>decide +kernel
 exact le_trans this (by decide)
theorem PV{k:Kd}(h:Gd k):k.tx.length<=sizeLine:=by
 have:k.tx.length<=2:=by
  rcases h with h|⟨k',rfl,h⟩
  ·rcases h with rfl|rfl|rfl|rfl|rfl<;>decide
  ·rcases h with rfl|rfl|rfl|rfl|rfl<;>decide
 exact le_trans this (by decide)
section
variable{P:Program}{w:World}{K:FZ}{mg:Str->Option Value}{base:Heap}{f M3 N4:Addr}{fd M6 N5:FuncData}
inductive spCalW(hs:Hs)(vs:List V)(H:Hp)(Q:VK):Prop
 |mk:∀(H0:Hp) (d hp:Addr) (more:Int) (rows:List Rw) (st:List Kd) (sl:List (Option Kd)),(vs=[.ref d,.int more,.ref hp])->(b7Z H0 hp hs)->(YR hs)->(0<hs.length)->(hs.length<=10)->(StA H0 H d rows st sl)->(sl.length<=20)->(st.length<=900)->(rows.length<=900)->(GdS st sl)->(∀rows' st' sl' H',StA H0 H' d rows' st' sl'->Pc hs rows st sl rows' st' sl'->Q .non H')->spCalW hs vs H Q
noncomputable def spCal(hs:Hs):Sp:=λvs H Q _=>spCalW hs vs H Q
theorem ok_law_calling(hs:Hs)(F:Fun K "_law_calling" "_law_calling" s_law_calling f fd)(B:BV.NoG mg)
  (D9:Cn P w K mg base CX0 1 "_law_number" q4L spNumB)
  (D5:Cn P w K mg base CX0 3 "_law_want" QF CN):
  FnOk P w K mg base CX0 4 f fd cqZ (spCal hs):=by
 obtain⟨M3,M6,D9,M7,M4,M8⟩:=D9
 obtain⟨N4,N5,D5,K3,K2,K1⟩:=D5
 refine F.ok sc_law_calling (λvs H Q E h=> ?_) (λcdv A outer s H vs Q E hr h=> ?_)
 ·obtain⟨H0,d,hp,more,rows,st,sl,rfl,_⟩:=h
  rfl
 obtain⟨H0,d,hp,more,rows,st,sl,rfl,⟨us,hus,hhs⟩,hok,hpos,hh10,⟨a,b,c,rs,hA⟩,hl,hsl,hrl,hgs,q⟩:=h
 have nd:=sc_law_calling.nd
 have hu:=hr.units0
 refine⟨_,(A6 (C5 (i:=3) nd rfl (Or.inl rfl) (B4 D7 (B4 D1 (pv 1) A5) (B9 (J9 (K:=K)) rfl B.len_ E8 (A0 (pv 2) A4))))
   (A6 (P8 (ixE K w (pv 2) (pv 3)) (JL rfl (L0 (G4 (i:=4) nd rfl (Or.inl rfl)) (L0 (G4 (i:=5) nd rfl (Or.inl rfl)) BJ))))
   (A6 (D8 (C8 (PW.pt (JY (B2 (VL (K:=K) hu) (C7 (lt_of_le_of_lt (add_le_add_left (by decide:1<=64) _) hr.units) (pv 0) A8 (λ_ _=>rfl)) (D4 A4) rfl) (EC (B2 (kEq (K:=K) hu) (ixE K w (ixE K w (C7 (lt_of_le_of_lt (add_le_add_left (by decide:1<=64) _) hr.units) (pv 0) A8 (λ_ _=>rfl)) (J0 E4 A5)) A5) A8 rfl)))) (A6 (C0 (M9 (K:=K) PySem.F.plainAttrs_list PySem.F.slot_list_append PySem.F.type_list_append C3 (C7 (lt_of_le_of_lt (add_le_add_left (by decide:1<=64) _) hr.units) (pv 0) A8 (λ_ _=>rfl)) (A0 (B7 (A0 A8 (A0 (B1 D9 (hr.mono (by omega)) rfl M8 M4 M7 .nil B8 (A0 (B4 D1 (pv 1) A5) A4)) A4))) A4)))
   (A6 (C0 (M9 (K:=K) PySem.F.plainAttrs_list PySem.F.slot_list_append PySem.F.type_list_append C3 (C7 (lt_of_le_of_lt (add_le_add_left (by decide:1<=64) _) hr.units) (pv 0) A8 (λ_ _=>rfl)) (A0 (B7 (A0 A8 A4)) A4)))
   (A6 (P8 (G5 bZZ (ixE K w (C7 (lt_of_le_of_lt (add_le_add_left (by decide:1<=64) _) hr.units) (pv 0) A8 (λ_ _=>rfl)) (J0 E4 A5)) (J3 A5) K4) (W3 (C7 (lt_of_le_of_lt (add_le_add_left (by decide:1<=64) _) hr.units) (pv 0) A8 (λ_ _=>rfl)) (J0 E4 A5) S8))
   (A7 W2)))) C1))
   (A6 (D8 (C8 (PW.pt (X8 (B2 (kEq (K:=K) hu) (B4 D7 (pv 1) A5) A5 rfl) (W0 (B2 (boZ (K:=K) hu) (G5 (W7 (K:=K)) (pv 4) (J3 (J0 E4 A5)) K4) (D4 (A0 A8 A4)) rfl)))) (A6 (C0 (B1 D5 (hr.mono (by omega)) rfl K1 K2 K3 .nil B8 (A0 (pv 0) (A0 (pv 4) (A0 (B4 D1 (pv 1) A5) A4)))))
   (A6 (C0 (M9 (K:=K) PySem.F.plainAttrs_list PySem.F.slot_list_append PySem.F.type_list_append C3 (C7 (lt_of_le_of_lt (add_le_add_left (by decide:1<=64) _) hr.units) (pv 0) A8 (λ_ _=>rfl)) (A0 (B7 (A0 A8 (A0 (pv 3) (A0 (B9 (J9 (K:=K)) rfl B.len_ E8 (A0 (pv 4) A4)) A4)))) A4)))
   (A6 (C0 (M9 (K:=K) PySem.F.plainAttrs_list PySem.F.slot_list_append PySem.F.type_list_append C3 (C7 (lt_of_le_of_lt (add_le_add_left (by decide:1<=64) _) hr.units) (pv 0) A8 (λ_ _=>rfl)) (A0 (pv 5) A4)))
   (A7 W2)))) C1))
   (A6 (C0 (B1 D5 (hr.mono (by omega)) rfl K1 K2 K3 .nil B8 (A0 (pv 0) (A0 (G5 (W7 (K:=K)) (pv 4) K4 (J3 (J0 E4 A5))) (A0 (B4 D1 (pv 1) A5) A4)))))
   (A6 (C0 (M9 (K:=K) PySem.F.plainAttrs_list PySem.F.slot_list_append PySem.F.type_list_append C3 (C7 (lt_of_le_of_lt (add_le_add_left (by decide:1<=64) _) hr.units) (pv 0) A8 (λ_ _=>rfl)) (A0 (B7 (A0 A8 (A0 (pv 3) (A0 (B4 P2 (B9 (J9 (K:=K)) rfl B.len_ E8 (A0 (pv 4) A4)) A5) A4)))) A4)))
   (A7 (C0 (M9 (K:=K) PySem.F.plainAttrs_list PySem.F.slot_list_append PySem.F.type_list_append C3 (C7 (lt_of_le_of_lt (add_le_add_left (by decide:1<=64) _) hr.units) (pv 0) A8 (λ_ _=>rfl)) (A0 (B4 aWZ A8 (pv 5)) A4)))))))))), ?_⟩
 have lus:=hhs.len
 obtain⟨bn,(eb:more.fdiv 3%(us.length:Nat)=(bn:Int)),hbn⟩:=U3 (more.fdiv 3) (m:=us.length) (by omega)
 obtain⟨⟨ps,told⟩,hps⟩:∃h,hs[bn]? =some h:=⟨_,List.getElem?_eq_getElem (by omega)⟩
 obtain⟨u,hu1,t,lp,rfl,ht,hlp⟩:=E3 hhs hps
 obtain⟨p3,pb,tb⟩:=hok _ (mem_of_getElem? hps)
 simp only at ht hlp p3 pb tb
 refine⟨_,rfl,_,_,rfl,rfl,lg (by decide) (by decide),_,rfl,_,_,rfl,.inl ⟨_,SqL.of (hA.sm _ _ hus),rfl⟩,_,_,rfl,rfl,(by omega:(0:Int)<(us.length:Nat)), ?_⟩
 show M0 _ _ _ [some (.ref d),some (.int more),some (.ref hp),some (.int (more.fdiv 3%(us.length:Nat))),none,none] H
 rw[eb]
 refine⟨_,rfl,_,rfl,(ixL (hA.sm _ _ hus) (C9 hu1) ⟨t,_,rfl,SqT.of (hA.sm _ _ ht),rfl,_,_,rfl,_,_,rfl,rfl, ?_⟩)⟩
 refine⟨fun σ' H'=>σ'=[some (.ref d),some (.int more),some (.ref hp),some (.int (bn:Int)),some (.ref lp),some (kv told)]/\SA H0 H' d a b c rs rows st sl, ?_, ?_⟩
 ·refine⟨_,rfl,d,.ref b,rfl,hA.gb,zero_le _,λe he=> ?_⟩
  have s2:=A3 he (.lst [])
  have hA2:=hA.same s2
  by_cases c2:st=[]
  ·subst c2
   exact .inl ⟨b,e,[],rfl,rfl,SqL.of hA2.hb,SqL.of A2,rfl,_,rfl,ifF (by decide) (ifF (by decide) ⟨rfl,hA2⟩)⟩
  obtain⟨st0,k,rfl⟩:=DZ c2
  have hgk:Gd k:=hgs.1 k (mem_append_right _ (mem_singleton.mpr rfl))
  obtain⟨c0,cr,ec0⟩:∃c0 cr,k.cs=c0::cr:=by cases k<;>exact⟨_,_,rfl⟩
  have hc0:k.tx.cps.toList[0]? =some c0:=by show k.cs[0]? =_;rw[ec0];rfl
  refine .inr ⟨b,e,_,_,rfl,rfl,SqL.of hA2.hb,SqL.of A2,(by rw[length_map];show(st0++ [k]).length≠0;rw[length_append];simp),_,rfl,ifT rfl ⟨_,rfl,d,.ref b,rfl,hA2.gb,_,rfl,(ixL hA2.hb (JS st0 k) (.inr (.inr (.inl ⟨k.tx,0,c0,rfl,rfl,PV hgk,C9 (j:=0) hc0,.inl ⟨rfl,_,rfl, ?_⟩⟩))))⟩⟩
  generalize upd H e (.lst [])=H2 at s2 hA2⊢
  by_cases ck:∃k',k=.fn k'
  ·obtain⟨k',rfl⟩:=ck
   have hk':Bas k':=by
    rcases hgk with h|⟨k2,h,hb⟩
    ·rcases h with h|h|h|h|h<;>cases h
    ·cases h;exact hb
   cases ec0
   refine ifT (decide_eq_true v_f.symm) (dgr rfl hA2 (⟨_,rfl,_,_,rfl,rfl,lg (by decide) (by decide),_,rfl,λm hm=>⟨z2,λp hp=> ?_⟩⟩))
   have hA3:=(hA2.same (A3 hp (.tup [.str "push",.int m]))).row (r:=.own (.push (.int m))) ⟨p,rfl,A2⟩
   refine⟨a,_,.ref p,rfl,rfl,(A3 hp _) _ _ hA2.ha,big_ _ (by rw[<-hA.hr.len];omega), ?_⟩
   generalize upd (upd H2 p (.tup [.str "push",.int m])) a (.lst (rs++ [.ref p]))=H6 at hA3⊢
   refine(dgr rfl hA3 (⟨z1,λp2 hp2=> ?_⟩))
   have hA4:=(hA3.same (A3 hp2 (.tup [.str "apply"]))).row (r:=.apply) ⟨p2,rfl,A2⟩
   refine⟨a,_,.ref p2,rfl,rfl,(A3 hp2 _) _ _ hA3.ha,big_ _ (by rw[<-hA3.hr.len];simp only[length_append,length_singleton];omega), ?_⟩
   generalize upd (upd H6 p2 (.tup [.str "apply"])) a (.lst (rs++ [.ref p]++ [.ref p2]))=H7 at hA4⊢
   refine⟨_,rfl,d,.ref b,rfl,hA4.gb,_,rfl,(ixL hA4.hb (JS st0 _) ⟨_,rfl,_,rfl,PV hgk,_,rfl,d,.ref b,rfl,hA4.gb,_,rfl,b,_, -1,_,rfl,rfl,hA4.hb,SZ st0 _, ?_⟩)⟩
   rw[c4Z hk',NA]
   refine q _ _ sl _ ⟨a,b,c,_,hA4.stk (st':=st0++ [k'])⟩ ⟨λps tys hg=> ?_, ?_, ?_, ?_,rfl,λh=>O2 h (λx hx=>mem_append_left _ hx) (.inl hk')⟩
   ·have h1:=hg.push (PX hm)
    rw[List.append_assoc]at h1
    exact⟨_,h1.one (λtold ty i e=> .apply e) (by simp only[length_append,length_cons,length_nil];omega) rfl⟩
   ·simp only[length_append,length_singleton];omega
   ·rw[K9,K9];exact le_succ _
   ·simp only[length_append,length_singleton];omega
  ·refine ifF ?_ ⟨rfl,hA2⟩
   rw[v_f]
   cases k with
   |fn k'=>exact absurd ⟨k',rfl⟩ ck
   |n=>cases ec0;decide
   |t=>cases ec0;decide
   |l=>cases ec0;decide
   |L=>cases ec0;decide
   |F=>cases ec0;decide
 clear hA
 rintro _ H1 ⟨rfl,hA⟩
 refine⟨fun σ' H'=>σ'=[some (.ref d),some (.int more),some (.ref hp),some (.int (bn:Int)),some (.ref lp),some (kv told)]/\SA H0 H' d a b c rs rows st sl/\∃ps0,ps=ps0++ [.n], ?_, ?_⟩
 ·refine⟨_,rfl,_,_,rfl,rfl,(by decide:(0:Int)<3),.inl ⟨rfl,_,rfl, ?_⟩⟩
  by_cases c1:more%3=0
  ·refine ifT (decide_eq_true (congrArg V.int c1)) (ifT rfl ?_)
   have hA3:=hA
   generalize H1=H3 at hA3⊢
   clear hA
   refine⟨_,rfl,_,rfl,_,rfl,_,_,rfl,rfl,lg (by decide) (by decide),H0,d,lp,ps,_,rows,st,sl,rfl,pb,hlp,⟨a,b,c,rs,hA3⟩,hl,le_trans p3 (by decide),le_trans hsl (by decide),le_trans hrl (by decide),λrows' st' H5 hS hT hlr hw hst hsub=> ?_⟩
   obtain⟨a1,b1,c1',rs1,hA1⟩:=hS
   refine(dgr rfl hA1 (⟨_,rfl,_,rfl,_,_,rfl,.inl ⟨_,SqL.of (hA1.sm _ _ hlp),rfl⟩,z3,λp hp=> ?_⟩))
   rw[show(ps.map kv).length=ps.length from length_map ..]
   have hA4:=(hA1.same (A3 hp (.tup [.str "call",.int (bn:Nat),.int (ps.length:Nat)]))).row (r:=.call bn ps.length) ⟨p,rfl,A2⟩
   refine⟨a1,_,.ref p,rfl,rfl,(A3 hp _) _ _ hA1.ha,big_ _ (by rw[<-hA1.hr.len];omega), ?_⟩
   generalize upd (upd H5 p (.tup [.str "call",.int (bn:Nat),.int (ps.length:Nat)])) a1 (.lst (rs1++ [.ref p]))=H7 at hA4⊢
   refine(dgb rfl hA4 (⟨_,rfl,b1,_,_,rfl,rfl,hA4.hb,big_ _ (by rw[length_map];exact le_trans (le_trans hst hsl) (by decide)), ?_⟩))
   have hA6:=hA4.stk (st':=st'++ [told])
   rw[map_append]at hA6
   refine q _ _ sl _ ⟨a1,b1,c1',_,hA6⟩ ⟨λps' tys hg=> ?_, ?_, ?_, ?_,rfl,λh=>O2 h hsub (.inl tb)⟩
   ·obtain⟨tys',hg'⟩:=hT hs ps' tys hg
    exact⟨_,hg'.one (λtold ty i e=> .call hps e) (by simp only[length_append,length_singleton];omega) rfl⟩
   ·rw[length_append];exact le_trans (succ_le_succ (le_trans hlr (add_le_add_left p3 _))) (add_le_add_left (by decide:4<=6) _)
   ·rw[K9,hw];exact le_succ _
   ·rw[length_append];exact succ_le_succ hst
  ·refine ifF (λz=>c1 (by have:=of_decide_eq_true z;injection this)) ⟨_,rfl,_,rfl,_,rfl,.inl (.inl ⟨lp,_,rfl,SqL.of (hA.sm _ _ hlp),λl1 h1=>⟨z1,λl2 h2=> ?_⟩⟩)⟩
   have s1:=A3 h1 (.lst (G9 (ps.map kv) (some (-1)) none))
   have s2:=A3 h2 (.lst [.str "n"])
   have hL1:=s2 _ _ (A2 (H:=H1) (a:=l1) (o:=.lst (G9 (ps.map kv) (some (-1)) none)))
   have hA3:=hA.same (s1.trans s2)
   have hfl:(G9 (ps.map kv) (some (-1)) none).all T3=true:=by
    rw[all_eq_true]
    intro x hx
    obtain⟨k,_,rfl⟩:=mem_map.mp (List.mem_of_mem_drop (List.mem_of_mem_take hx))
    rfl
   refine⟨l1,l2,_,_,rfl,rfl,SqL.of hL1,SqL.of A2,hfl,rfl,_,rfl, ?_⟩
   generalize upd (upd H1 l1 (.lst (G9 (ps.map kv) (some (-1)) none))) l2 (.lst [.str "n"])=H3 at s1 s2 hA3⊢
   clear hL1 s1 s2 hA
   by_cases c2:∃ps0,ps=ps0++ [.n]
   ·obtain⟨ps0,rfl⟩:=c2
    refine ifF ?_ ⟨rfl,hA3,ps0,rfl⟩
    rw[map_append]
    show¬(!GX (G9 (ps0.map kv++ [kv .n]) (some (-1)) none) [.str "n"])=true
    rw[QW,v_n]
    decide
   ·refine ifT ?_ ?_
    ·by_cases c3:ps=[]
     ·subst c3
      rfl
     ·obtain⟨ps0,k,rfl⟩:=DZ c3
      have hk:k≠ .n:=λz=>c2 ⟨ps0,by rw[z]⟩
      rw[map_append]
      show(!GX (G9 (ps0.map kv++ [kv k]) (some (-1)) none) [.str "n"])=true
      rw[QW,v_n]
      have:=FO (as:=[k.tx]) (bs:=[Kd.n.tx])
      show(!GX ([k.tx].map V.str) ([Kd.n.tx].map V.str))=true
      rw[this,decide_eq_false λz=>hk (BZ (by injection z))]
      rfl
    refine⟨_,rfl,_,rfl,_,rfl,_,_,rfl,rfl,lg (by decide) (by decide),H0,d,lp,ps,_,rows,st,sl,rfl,pb,hlp,⟨a,b,c,rs,hA3⟩,hl,le_trans p3 (by decide),le_trans hsl (by decide),le_trans hrl (by decide),λrows' st' H5 hS hT hlr hw hst hsub=> ?_⟩
    obtain⟨a1,b1,c1',rs1,hA1⟩:=hS
    refine(dgr rfl hA1 (⟨_,rfl,_,rfl,_,_,rfl,.inl ⟨_,SqL.of (hA1.sm _ _ hlp),rfl⟩,z3,λp hp=> ?_⟩))
    rw[show(ps.map kv).length=ps.length from length_map ..]
    have hA4:=(hA1.same (A3 hp (.tup [.str "call",.int (bn:Nat),.int (ps.length:Nat)]))).row (r:=.call bn ps.length) ⟨p,rfl,A2⟩
    refine⟨a1,_,.ref p,rfl,rfl,(A3 hp _) _ _ hA1.ha,big_ _ (by rw[<-hA1.hr.len];omega), ?_⟩
    generalize upd (upd H5 p (.tup [.str "call",.int (bn:Nat),.int (ps.length:Nat)])) a1 (.lst (rs1++ [.ref p]))=H7 at hA4⊢
    refine(dgb rfl hA4 (⟨_,rfl,b1,_,_,rfl,rfl,hA4.hb,big_ _ (by rw[length_map];exact le_trans (le_trans hst hsl) (by decide)), ?_⟩))
    have hA6:=hA4.stk (st':=st'++ [told])
    rw[map_append]at hA6
    refine q _ _ sl _ ⟨a1,b1,c1',_,hA6⟩ ⟨λps' tys hg=> ?_, ?_, ?_, ?_,rfl,λh=>O2 h hsub (.inl tb)⟩
    ·obtain⟨tys',hg'⟩:=hT hs ps' tys hg
     exact⟨_,hg'.one (λtold ty i e=> .call hps e) (by simp only[length_append,length_singleton];omega) rfl⟩
    ·rw[length_append];exact le_trans (succ_le_succ (le_trans hlr (add_le_add_left p3 _))) (add_le_add_left (by decide:4<=6) _)
    ·rw[K9,hw];exact le_succ _
    ·rw[length_append];exact succ_le_succ hst
 clear hA
 rintro _ H3 ⟨rfl,hA,ps0,rfl⟩
 have hps0:∀k∈ps0,Bas k:=λk hk=>pb k (mem_append_left _ hk)
 have p2:ps0.length<=2:=by rw[length_append]at p3;simp only[length_singleton]at p3;omega
 have lps:((ps0++ [Kd.n]).map kv).length=ps0.length+1:=by rw[length_map,length_append];rfl
 refine⟨_,rfl,_,rfl,_,rfl,_,rfl,.inl (.inl ⟨lp,_,rfl,SqL.of (hA.sm _ _ hlp),λl1 h1=> ?_⟩)⟩
 have ec:G9 ((ps0++ [Kd.n]).map kv) none (some (-1))=ps0.map kv:=by rw[map_append];exact cut_m _ _
 rw[ec]
 refine⟨_,rfl,_,_,rfl,rfl,lg (by decide) (by decide),upd H0 l1 (.lst (ps0.map kv)),d,l1,ps0,_,rows,st,sl,rfl,hps0,A2,⟨a,b,c,rs,hA.base h1 _⟩,hl,le_trans p2 (by decide),le_trans hsl (by decide),le_trans hrl (by decide),λrows' st' H5 hS hT hlr hw hst hsub=> ?_⟩
 obtain⟨a1,b1,c1,rs1,hA1⟩:=hS
 replace hA1:=hA1.unbase (hA.n0 h1)
 refine(dgr rfl hA1 (⟨_,rfl,_,rfl,_,_,rfl,.inl ⟨_,SqL.of (hA1.sm _ _ hlp),rfl⟩,_,_,rfl,rfl,z3,λp hp=> ?_⟩))
 have en:(((ps0++ [Kd.n]).map kv).length:Int) - 1=(ps0.length:Nat):=by rw[lps];omega
 have hA4:=(hA1.same (A3 hp (.tup [.str "close",.int (bn:Nat),.int ((((ps0++ [Kd.n]).map kv).length:Int) - 1)]))).row (r:=.own (.close bn ps0.length)) ⟨p,rfl,by rw[A2,en];rfl⟩
 refine⟨a1,_,.ref p,rfl,rfl,(A3 hp _) _ _ hA1.ha,big_ _ (by rw[<-hA1.hr.len];omega), ?_⟩
 generalize upd (upd H5 p (.tup [.str "close",.int (bn:Nat),.int ((((ps0++ [Kd.n]).map kv).length:Int) - 1)])) a1 (.lst (rs1++ [.ref p]))=H7 at hA4⊢
 refine(dgb rfl hA4 (⟨_,rfl,.inr (.inl ⟨_,_,rfl,rfl,(dwZ tb), ?_⟩)⟩))
 rw[dlZ tb]
 refine⟨b1,_,_,rfl,rfl,hA4.hb,big_ _ (by rw[length_map];exact le_trans (le_trans hst hsl) (by decide)), ?_⟩
 have hA6:=hA4.stk (st':=st'++ [.fn told])
 rw[map_append]at hA6
 refine q _ _ sl _ ⟨a1,b1,c1,_,hA6⟩ ⟨λps tys hg=> ?_, ?_, ?_, ?_,rfl,λh=>O2 h hsub (.inr ⟨told,rfl,tb⟩)⟩
 ·obtain⟨tys',hg'⟩:=hT hs ps tys hg
  exact⟨_,hg'.one (λtold ty i e=> .close hps (by omega) e) (by simp only[length_append,length_singleton];omega) rfl⟩
 ·rw[length_append];exact le_trans (succ_le_succ (le_trans hlr (add_le_add_left p2 _))) (add_le_add_left (by decide:3<=6) _)
 ·rw[K9,hw];exact le_refl _
 ·rw[length_append];exact succ_le_succ hst
end
noncomputable abbrev s_law_block:Stmt:=CL.top 44
noncomputable abbrev NG:List Str:=["_law_cells","_law_heads_here","_law_b","_law_params","_law_told","_law_state","_law_cell","_law_more"]
theorem sc_law_block:FnScope NG q6L (A9 s_law_block):=fS
structure BI (hs:Hs) (ps:List Kd) (H0 H':Hp) (dd:Addr) (i:Nat) (rows:List Rw) (st:List Kd) (sl:List (Option Kd)):Prop where
 sa:StA H0 H' dd rows st sl
 ok:∃tys,GOk hs ps rows st sl tys
 len:rows.length<=6*i
 wt:wts rows<=i
 stl:st.length<=i
 sll:sl.length=ps.length+3
 gd:GdS st sl
noncomputable def BPv(hs:Hs)(ps:List Kd)(H0:Hp)(ce hp lp dd:Addr)(b:Nat)(told:Kd)(i:Nat)(σ:St)(H':Hp):Prop:=∃rows st sl x6 x7,σ=[some (.ref ce),some (.ref hp),some (.int (b:Nat)),some (.ref lp),some (kv told),some (.ref dd),x6,x7]/\BI hs ps H0 H' dd i rows st sl
theorem BI.step{hs:Hs}{ps:List Kd}{H0 H' H2:Hp}{dd:Addr}{i:Nat}{rows rows':List Rw}{st st':List Kd}{sl sl':List (Option Kd)}(h:BI hs ps H0 H' dd i rows st sl)(h1:StA H0 H2 dd rows' st' sl')(h2:Pc hs rows st sl rows' st' sl'):BI hs ps H0 H2 dd (i+1) rows' st' sl':=by
 obtain⟨tys,hg⟩:=h.ok
 have a1:=h.len
 have a2:=h.wt
 have a3:=h.stl
 have a4:=h.sll
 have b1:=h2.len
 have b2:=h2.wts
 have b3:=h2.stl
 have b4:=h2.sll
 exact⟨h1,h2.go ps tys hg,by omega,by omega,by omega,by omega,h2.gd h.gd⟩
section
variable{P:Program}{w:World}{K:FZ}{mg:Str->Option Value}{base:Heap}{f M3 N4 IR JE JI GV GM:Addr}{fd M6 N5 IU IH JC GQ GJ:FuncData}
inductive spBlockW(hs:Hs)(vs:List V)(H:Hp)(Q:VK):Prop
 |mk:∀(ce hp:Addr) (ns:List Int) (b:Nat) (ps:List Kd) (told:Kd),(vs=[.ref ce,.ref hp,.int (b:Nat)])->(H ce=some (.lst (ns.map V.int)))->(ns.length<=8)->(b7Z H hp hs)->(YR hs)->(hs.length<=10)->(hs[b]? =some (ps,told))->(∀bk u H',Same H H'->BAt H' bk u->(∃tys,BkOk hs b bk ps told tys)->Q u H')->spBlockW hs vs H Q
noncomputable def JQ(hs:Hs):Sp:=λvs H Q _=>spBlockW hs vs H Q
theorem ok_law_block(hs:Hs)(F:Fun K "_law_block" "_law_block" s_law_block f fd)(B:BV.NoG mg)
  (D9:Cn P w K mg base CX0 1 "_law_number" q4L spNumB)
  (D5:Cn P w K mg base CX0 3 "_law_want" QF CN)
  (U6:Cn P w K mg base CX0 4 "_law_reckon" DU NI)
  (U8:Cn P w K mg base CX0 4 "_law_listed" DU NI)
  (V3:Cn P w K mg base CX0 4 "_law_branch" DU NI)
  (T5:Cn P w K mg base CX0 1 "_law_slotted" DU NI)
  (T6:Cn P w K mg base CX0 4 "_law_calling" cqZ (spCal hs)):
  FnOk P w K mg base CX0 5 f fd q6L (JQ hs):=by
 obtain⟨M3,M6,D9,M7,M4,M8⟩:=D9
 obtain⟨N4,N5,D5,K3,K2,K1⟩:=D5
 obtain⟨IR,IU,U6,IX,IY,JB⟩:=U6
 obtain⟨JE,IH,U8,JJ,IJ,JH⟩:=U8
 obtain⟨JI,JC,V3,JG,IS,IZ⟩:=V3
 obtain⟨GV,GQ,T5,GK,GH,GO⟩:=T5
 obtain⟨GM,GJ,T6,GD,GU,GS⟩:=T6
 refine F.ok sc_law_block (λvs H Q E h=> ?_) (λcdv A outer s H vs Q E hr h=> ?_)
 ·obtain⟨ce,hp,ns,b,ps,told,rfl,_⟩:=h
  rfl
 obtain⟨ce,hp,ns,b,ps,told,rfl,hce,hns,hHs,hok,hh10,hps,q⟩:=h
 have nd:=sc_law_block.nd
 have hu:=hr.units0
 refine⟨_,(A6 (P8 (ixE K w (pv 1) (pv 2)) (JL rfl (L0 (G4 (i:=3) nd rfl (Or.inl rfl)) (L0 (G4 (i:=4) nd rfl (Or.inl rfl)) BJ))))
   (A6 (C5 (i:=5) nd rfl (Or.inl rfl) (SO (U4 A8 (D4 A4) (U4 A8 (D4 A4) (U4 A8 (B4 (M2 (K:=K)) (K0 (X7 (K:=K)) rfl B.list_ N0 (A0 (pv 3) A4)) (D4 (A0 N7 (A0 N7 (A0 N7 A4))))) RQ))) rfl rfl (by simp) (by decide)))
   (A6 (D8 (U0 PassesOwn.never rfl (Z4 (K:=K) (pv 0)) (G4 (i:=6) nd rfl (Or.inl rfl)) (A6 (C5 (i:=7) nd rfl (Or.inl rfl) (B4 D1 (pv 6) A5))
   (A7 (D8 (C8 (B2 (kEq (K:=K) hu) (B4 D7 (pv 6) A5) A5 rfl) (A7 (C0 (B1 U6 (hr.mono (by omega)) rfl JB IY IX .nil B8 (A0 (pv 5) (A0 (pv 7) A4))))) (A7 (D8 (C8 (PW.pt (X8 (B2 (kEq (K:=K) hu) (B4 D7 (pv 6) A5) A5 rfl) (W0 (B2 (kEq (K:=K) hu) (B4 D7 (pv 6) A5) A5 rfl)))) (A7 (C0 (B1 U8 (hr.mono (by omega)) rfl JH IJ JJ .nil B8 (A0 (pv 5) (A0 (pv 7) A4))))) (A7 (D8 (C8 (B2 (kEq (K:=K) hu) (B4 D7 (pv 6) A5) A5 rfl) (A7 (C0 (B1 V3 (hr.mono (by omega)) rfl IZ IS JG .nil B8 (A0 (pv 5) (A0 (pv 7) A4))))) (A7 (D8 (C8 (B2 (kEq (K:=K) hu) (B4 D7 (pv 6) A5) A5 rfl) (A7 (C0 (B1 T5 (hr.mono (by omega)) rfl GO GH GK .nil B8 (A0 (pv 5) (A0 (pv 7) A4))))) (A7 (D8 (C8 (PW.pt (X8 (B2 (kEq (K:=K) hu) (B4 D7 (pv 6) A5) A5 rfl) (W0 (B2 (kEq (K:=K) hu) (B4 D7 (pv 6) A5) A5 rfl)))) (A7 (C0 (B1 T6 (hr.mono (by omega)) rfl GS GU GD .nil B8 (A0 (pv 5) (A0 (pv 7) (A0 (pv 1) A4)))))) (A6 (C0 (M9 (K:=K) PySem.F.plainAttrs_list PySem.F.slot_list_append PySem.F.type_list_append C3 (C7 (lt_of_le_of_lt (add_le_add_left (by decide:1<=64) _) hr.units) (pv 5) A8 (λ_ _=>rfl)) (A0 (B7 (A0 A8 (A0 (B1 D9 (hr.mono (by omega)) rfl M8 M4 M7 .nil B8 (A0 (pv 7) A4)) A4))) A4)))
   (A7 (C0 (M9 (K:=K) PySem.F.plainAttrs_list PySem.F.slot_list_append PySem.F.type_list_append C3 (C7 (lt_of_le_of_lt (add_le_add_left (by decide:1<=64) _) hr.units) (pv 5) A8 (λ_ _=>rfl)) (A0 A8 A4)))))))))))))))))))))))
   (A6 (C0 (B1 D5 (hr.mono (by omega)) rfl K1 K2 K3 .nil B8 (A0 (pv 5) (A0 (D4 (A0 (pv 4) A4)) (A0 (B4 (M2 (K:=K)) (B4 JP A5 (B9 (J9 (K:=K)) rfl B.len_ E8 (A0 (pv 0) A4))) A5) A4)))))
   (A7 (B5 (B7 (A0 (B9 (J9 (K:=K)) rfl B.len_ E8 (A0 (pv 3) A4)) (A0 (B4 (M2 (K:=K)) (B9 (J9 (K:=K)) rfl B.len_ E8 (A0 (pv 3) A4)) A5) (A0 (K0 (ED (K:=K)) rfl B.tuple_ P4 (A0 (B4 (M2 (K:=K)) (C7 (lt_of_le_of_lt (add_le_add_left (by decide:1<=64) _) hr.units) (pv 5) A8 (λ_ _=>rfl)) (D4 (A0 (B7 (A0 A8 A4)) A4))) A4)) A4)))))))))), ?_⟩
 obtain⟨us,hus,hhs⟩:=id hHs
 obtain⟨u,hu1,t,lp,rfl,ht,hlp⟩:=E3 hhs hps
 obtain⟨p3,pb,tb⟩:=hok _ (mem_of_getElem? hps)
 simp only at ht hlp p3 pb tb
 have hpos:0<hs.length:=lt_of_le_of_lt (zero_le _) (List.getElem?_eq_some_iff.mp hps).1
 have lps:(ps.map kv).length=ps.length:=length_map ..
 refine⟨_,rfl,_,rfl,(ixL hus (C9 hu1) ⟨t,_,rfl,SqT.of ht,rfl,_,_,rfl,_,_,rfl,rfl, ?_⟩)⟩
 intro dd hdd
 have s0:=A3 hdd (.dK [])
 refine⟨zero_le _,λa ha=>⟨zero_le _,λb2 hb2=> ?_⟩⟩
 have s1:=A3 ha (.lst [])
 have s2:=A3 hb2 (.lst [])
 refine⟨_,rfl,lp,_,rfl,.inl (SqL.of (s2 _ _ (s1 _ _ (s0 _ _ hlp)))),λl1 h1=>⟨z3,λl2 h2=> ?_⟩⟩
 have s3:=A3 h1 (.lst (ps.map kv))
 have s4:=A3 h2 (.lst [.non,.non,.non])
 refine .inr (.inl ⟨l1,l2,_,_,rfl,rfl,s4 _ _ A2,A2,big_ _ (by rw[lps];show ps.length+3<=950;omega)|>le_of_lt,λc hc=> ?_⟩)
 have s5:=A3 hc (.lst (ps.map kv++ [.non,.non,.non]))
 refine⟨s5 _ _ (s4 _ _ (s3 _ _ (s2 _ _ (s1 _ _ A2)))),[(.inr "rows",.ref a),(.inr "stack",.ref b2),(.inr "slots",.ref c)],rfl,(by decide:3<=15), ?_⟩
 have e1:Same H (upd (upd (upd (upd (upd (upd H dd (.dK [])) a (.lst [])) b2 (.lst [])) l1 (.lst (ps.map kv))) l2 (.lst [.non,.non,.non])) c (.lst (ps.map kv++ [.non,.non,.non]))):=s0.trans (s1.trans (s2.trans (s3.trans (s4.trans s5))))
 have na:H a=none:=by
  cases e:H a with
  |none=>rfl
  |some o=>rw[s0 _ _ e]at ha;cases ha
 have nb:H b2=none:=by
  cases e:H b2 with
  |none=>rfl
  |some o=>rw[s1 _ _ (s0 _ _ e)]at hb2;cases hb2
 have nc:H c=none:=by
  cases e:H c with
  |none=>rfl
  |some o=>rw[s4 _ _ (s3 _ _ (s2 _ _ (s1 _ _ (s0 _ _ e))))]at hc;cases hc
 have xa:=(s2.trans (s3.trans (s4.trans s5))) _ _ (A2 (H:=upd H dd (.dK [])) (a:=a) (o:=.lst []))
 have xb:=(s3.trans (s4.trans s5)) _ _ (A2 (H:=upd (upd H dd (.dK [])) a (.lst [])) (a:=b2) (o:=.lst []))
 have xd:=(s1.trans (s2.trans (s3.trans (s4.trans s5)))) _ _ (A2 (H:=H) (a:=dd) (o:=.dK []))
 have xc:=A2 (H:=upd (upd (upd (upd (upd H dd (.dK [])) a (.lst [])) b2 (.lst [])) l1 (.lst (ps.map kv))) l2 (.lst [.non,.non,.non])) (a:=c) (o:=.lst (ps.map kv++ [.non,.non,.non]))
 have nab:a≠b2:=λz=>by rw[<-z,A2]at hb2;cases hb2
 have nac:a≠c:=λz=>by
  rw[<-z,(s2.trans (s3.trans s4)) _ _ A2]at hc;cases hc
 have nbc:b2≠c:=λz=>by
  rw[<-z,(s3.trans s4) _ _ A2]at hc;cases hc
 generalize upd (upd (upd (upd (upd (upd H dd (.dK [])) a (.lst [])) b2 (.lst [])) l1 (.lst (ps.map kv))) l2 (.lst [.non,.non,.non])) c (.lst (ps.map kv++ [.non,.non,.non]))=H1 at e1 xa xb xc xd⊢
 clear s0 s1 s2 s3 s4 s5 ha hb2 h1 h2 hc
 have da:a≠dd:=λz=>by rw[z,xd]at xa;cases xa
 have db:b2≠dd:=λz=>by rw[z,xd]at xb;cases xb
 have dc:c≠dd:=λz=>by rw[z,xd]at xc;cases xc
 have hA:SA H (upd H1 dd (.dK [(.inr "rows",.ref a),(.inr "stack",.ref b2),(.inr "slots",.ref c)])) dd a b2 c [] [] [] (ps.map some++ [none,none,none]):=by
  refine⟨Y1 e1 hdd _,A2,by rw[B0 da];exact xa,.nil,by rw[B0 db];exact xb, ?_,hdd,na,nb,nc,nab,nac,nbc⟩
  rw[B0 dc,xc,map_append,List.map_map]
  rfl
 show M0 _ _ _ [some (.ref ce),some (.ref hp),some (.int (b:Nat)),some (.ref lp),some (kv told),some (.ref dd),none,none] (upd H1 dd (.dK [(.inr "rows",.ref a),(.inr "stack",.ref b2),(.inr "slots",.ref c)]))
 generalize upd H1 dd (.dK [(.inr "rows",.ref a),(.inr "stack",.ref b2),(.inr "slots",.ref c)])=H2 at hA⊢
 clear e1 xa xb xc xd da db dc H1 nab nac nbc na nb nc
 have hB0:BI hs ps H H2 dd 0 [] [] (ps.map some++ [none,none,none]):=by
  refine⟨⟨a,b2,c,[],hA⟩,⟨[],WA hs ps⟩,le_refl _,le_refl _,le_refl _,by simp,⟨λk hk=>(nomatch hk),λk hk=> ?_⟩⟩
  rcases mem_append.mp hk with hk|hk
  ·obtain⟨k',hk',e⟩:=mem_map.mp hk
   cases e
   exact .inl (pb k hk')
  ·simp at hk
 refine⟨BPv hs ps H ce hp lp dd b told ns.length, ?_, ?_⟩
 ·refine⟨_,rfl,ce,rfl,⟨_,SqL.of (hA.sm _ _ hce)⟩,BG (xs:=ns.map V.int) (BPv hs ps H ce hp lp dd b told) ⟨[],[],_,none,none,rfl,hB0⟩ ?_ ?_ ?_⟩
  ·rintro i σ H' hi ⟨rows,st,sl,x6,x7,rfl,hB⟩
   obtain⟨a',b',c',rs',hA'⟩:=hB.sa
   exact SqL.of (hA'.sm _ _ hce)
  ·rintro i x σ H' hx ⟨rows,st,sl,x6,x7,rfl,hB⟩
   have hi:i<8:=by
    have:=(List.getElem?_eq_some_iff.mp hx).1
    rw[length_map]at this
    omega
   obtain⟨n,rfl⟩:∃n:Int,x=.int n:=by
    rw[getElem?_map]at hx
    cases e:ns[i]? with
    |none=>rw[e]at hx;cases hx
    |some n=>rw[e]at hx;cases hx;exact⟨n,rfl⟩
   have a1:=hB.len
   have a3:=hB.stl
   have a4:=hB.sll
   have c3':3<=sl.length:=by omega
   have c20:sl.length<=20:=by omega
   have cst:st.length<=900:=by omega
   have cro:rows.length<=900:=by omega
   refine⟨_,rfl,_,_,rfl,rfl,lg (by decide) (by decide), ?_⟩
   refine⟨BPv hs ps H ce hp lp dd b told (i+1),⟨_,rfl,_,_,rfl,rfl,(by decide:(0:Int)<8),.inl ⟨rfl,_,rfl, ?_⟩⟩,λ_ _ h=>h⟩
   by_cases c0:n%8=0
   ·exact ifT (decide_eq_true (congrArg V.int c0)) ⟨_,rfl,_,rfl,H,dd,_,rows,st,sl,rfl,hB.sa,c3',c20,cst,cro,hB.gd,λrows' st' sl' H2 h1 h2=>⟨rows',st',sl',_,_,rfl,hB.step h1 (h2 hs)⟩⟩
   refine ifF (λz=>c0 (by have:=of_decide_eq_true z;injection this)) ⟨BPv hs ps H ce hp lp dd b told (i+1),⟨_,rfl,_,_,rfl,rfl,(by decide:(0:Int)<8),.inl ⟨rfl,_,rfl, ?_⟩⟩,λ_ _ h=>h⟩
   by_cases c1:n%8=1
   ·exact ifT (decide_eq_true (congrArg V.int c1)) (ifT rfl ⟨_,rfl,_,rfl,H,dd,_,rows,st,sl,rfl,hB.sa,c3',c20,cst,cro,hB.gd,λrows' st' sl' H2 h1 h2=>⟨rows',st',sl',_,_,rfl,hB.step h1 (h2 hs)⟩⟩)
   refine ifF (λz=>c1 (by have:=of_decide_eq_true z;injection this)) ⟨_,rfl,_,_,rfl,rfl,(by decide:(0:Int)<8),.inl ⟨rfl,_,rfl, ?_⟩⟩
   by_cases c5:n%8=5
   ·exact ifT (decide_eq_true (congrArg V.int c5)) ⟨_,rfl,_,rfl,H,dd,_,rows,st,sl,rfl,hB.sa,c3',c20,cst,cro,hB.gd,λrows' st' sl' H2 h1 h2=>⟨rows',st',sl',_,_,rfl,hB.step h1 (h2 hs)⟩⟩
   refine ifF (λz=>c5 (by have:=of_decide_eq_true z;injection this)) ⟨BPv hs ps H ce hp lp dd b told (i+1),⟨_,rfl,_,_,rfl,rfl,(by decide:(0:Int)<8),.inl ⟨rfl,_,rfl, ?_⟩⟩,λ_ _ h=>h⟩
   by_cases c2:n%8=2
   ·exact ifT (decide_eq_true (congrArg V.int c2)) ⟨_,rfl,_,rfl,H,dd,_,rows,st,sl,rfl,hB.sa,c3',c20,cst,cro,hB.gd,λrows' st' sl' H2 h1 h2=>⟨rows',st',sl',_,_,rfl,hB.step h1 (h2 hs)⟩⟩
   refine ifF (λz=>c2 (by have:=of_decide_eq_true z;injection this)) ⟨BPv hs ps H ce hp lp dd b told (i+1),⟨_,rfl,_,_,rfl,rfl,(by decide:(0:Int)<8),.inl ⟨rfl,_,rfl, ?_⟩⟩,λ_ _ h=>h⟩
   by_cases c3:n%8=3
   ·exact ifT (decide_eq_true (congrArg V.int c3)) ⟨_,rfl,_,rfl,H,dd,_,rows,st,sl,rfl,hB.sa,c3',c20,cst,cro,hB.gd,λrows' st' sl' H2 h1 h2=>⟨rows',st',sl',_,_,rfl,hB.step h1 (h2 hs)⟩⟩
   refine ifF (λz=>c3 (by have:=of_decide_eq_true z;injection this)) ⟨BPv hs ps H ce hp lp dd b told (i+1),⟨_,rfl,_,_,rfl,rfl,(by decide:(0:Int)<8),.inl ⟨rfl,_,rfl, ?_⟩⟩,λ_ _ h=>h⟩
   by_cases c4:n%8=4
   ·exact ifT (decide_eq_true (congrArg V.int c4)) (ifT rfl ⟨_,rfl,_,rfl,_,rfl,H,dd,hp,_,rows,st,sl,rfl,hHs,hok,hpos,hh10,hB.sa,c20,cst,cro,hB.gd,λrows' st' sl' H2 h1 h2=>⟨rows',st',sl',_,_,rfl,hB.step h1 h2⟩⟩)
   refine ifF (λz=>c4 (by have:=of_decide_eq_true z;injection this)) ⟨_,rfl,_,_,rfl,rfl,(by decide:(0:Int)<8),.inl ⟨rfl,_,rfl, ?_⟩⟩
   by_cases c7:n%8=7
   ·exact ifT (decide_eq_true (congrArg V.int c7)) ⟨_,rfl,_,rfl,_,rfl,H,dd,hp,_,rows,st,sl,rfl,hHs,hok,hpos,hh10,hB.sa,c20,cst,cro,hB.gd,λrows' st' sl' H2 h1 h2=>⟨rows',st',sl',_,_,rfl,hB.step h1 h2⟩⟩
   refine ifF (λz=>c7 (by have:=of_decide_eq_true z;injection this)) ?_
   obtain⟨a',b',c',rs',hA'⟩:=hB.sa
   refine(dgr rfl hA' (⟨_,rfl,_,rfl,λm hm=>⟨z2,λp hp=> ?_⟩⟩))
   have hA3:=(hA'.same (A3 hp (.tup [.str "push",.int m]))).row (r:=.own (.push (.int m))) ⟨p,rfl,A2⟩
   refine⟨a',_,.ref p,rfl,rfl,(A3 hp _) _ _ hA'.ha,big_ _ (by rw[<-hA'.hr.len];omega), ?_⟩
   generalize upd (upd H' p (.tup [.str "push",.int m])) a' (.lst (rs'++ [.ref p]))=H6 at hA3⊢
   refine(dgb rfl hA3 (⟨b',_,_,rfl,rfl,hA3.hb,big_ _ (by rw[length_map];omega), ?_⟩))
   rw[v_n]
   have hA6:=hA3.stk (st':=st++ [.n])
   rw[map_append]at hA6
   refine⟨_,_,sl,_,_,rfl,hB.step ⟨a',b',c',_,hA6⟩ ⟨λps' tys hg=>⟨_,hg.push (PX hm)⟩, ?_, ?_, ?_,rfl,λh=>O2 h (λ_ z=>z) (.inl (.inl rfl))⟩⟩
   ·rw[length_append];simp only[length_singleton];omega
   ·rw[K9];exact le_succ _
   ·rw[length_append];exact le_refl _
  ·rintro σ H' h
   rw[length_map]at h
   exact h
 rintro _ H3 ⟨rows,st,sl,x6,x7,rfl,hB⟩
 have a1:=hB.len
 have a2:=hB.wt
 have a3:=hB.stl
 have a4:=hB.sll
 obtain⟨tys,hG⟩:=hB.ok
 obtain⟨a,b2,c,rs,hA⟩:=hB.sa
 have lns:(ns.map V.int).length=ns.length:=length_map ..
 refine⟨_,rfl,_,rfl,z1,λl hl'=>⟨_,rfl,_,_,rfl,.inl ⟨_,SqL.of ((A3 hl' _) _ _ (hA.sm _ _ hce)),rfl⟩,.inl ⟨_,_,rfl,rfl,.inl ⟨by decide,by decide⟩,.inl ⟨_,_,rfl,rfl,upd H l (.lst [kv told]),dd,l,[told],_,rows,st,sl,rfl, ?_,A2,⟨a,b2,c,rs,hA.base hl' _⟩,by omega,by simp,by omega,by omega,λrows' st' H5 hS hT hlr hw hst hsub=> ?_⟩⟩⟩⟩
 ·intro x hx
  rw[sZ hx];exact tb
 obtain⟨a',b',c',rs',hA1⟩:=hS
 replace hA1:=hA1.unbase (hA.n0 hl')
 simp only[length_singleton]at hlr
 obtain⟨tys',hG'⟩:=hT hs ps tys hG
 have hlp1:=hA1.sm _ _ hlp
 refine⟨_,rfl,_,_,rfl,.inl ⟨_,SqL.of hlp1,rfl⟩,_,rfl,_,_,rfl,.inl ⟨_,SqL.of hlp1,rfl⟩,.inl ⟨_,_,rfl,rfl,_,rfl,dd,.ref a',rfl,hA1.gr,z1,λp hp=>⟨z1,λlb hlb=> ?_⟩⟩⟩
 have s1:=A3 hp (.tup [.str "back"])
 have s2:=A3 hlb (.lst [.ref p])
 refine .inr (.inl ⟨a',lb,_,_,rfl,rfl,s2 _ _ (s1 _ _ hA1.ha),A2,big_ _ (by rw[<-hA1.hr.len];show rows'.length+1<=950;omega)|>le_of_lt,λlr hlr'=> ?_⟩)
 have s3:=A3 hlr' (.lst (rs'++ [.ref p]))
 refine⟨lr,_,rfl,.inl ⟨SqL.of A2,λtr htr=>⟨z3,λt2 ht2=> ?_⟩⟩⟩
 have s4:=A3 htr (.tup (rs'++ [.ref p]))
 have s5:=A3 ht2 (.tup [.int ((ps.map kv).length:Nat),.int (((ps.map kv).length:Nat)+3),.ref tr])
 have sA:=s1.trans (s2.trans (s3.trans (s4.trans s5)))
 refine q ⟨ps.length,ps.length+3,rows'++ [.back]⟩ (.ref t2) _ (hA1.sm.trans sA) ⟨t2,tr,rs'++ [.ref p],rfl, ?_,s5 _ _ A2, ?_,by show ps.length+3<=100;omega⟩ ⟨_,hG'.block hps (by omega) (by omega) ?_⟩
 ·rw[A2,lps];rfl
 ·exact(hA1.hr.imp λ_ _ z=>z.mo (B6 sA)).app (.cons ⟨p,rfl,(s2.trans (s3.trans (s4.trans s5))) _ _ A2⟩ .nil)
 ·show wts rows'<=8
  rw[hw];omega
end
noncomputable abbrev s_law_heads:Stmt:=CL.top 36
noncomputable abbrev DI:List Str:=["_law_cell","_law_many","_law_main","_law_heads_here","_law_b","_law_one","_law_params"]
theorem sc_law_heads:FnScope DI q3L (A9 s_law_heads):=fS
noncomputable def Hd2(H:Hp)(hp:Addr)(h:List Kd×Kd)(u:V):Prop:=∃t lp,u=.ref t/\H t=some (.tup [.ref lp,kv h.2])/\H lp=some (.lst (h.1.map kv))/\lp≠hp
theorem Hd2.same{H H':Hp}{hp:Addr}(s:Same H H'){h:List Kd×Kd}{u:V}(z:Hd2 H hp h u):Hd2 H' hp h u:=let⟨t,lp,e,h1,h2,h3⟩:=z;⟨t,lp,e,s _ _ h1,s _ _ h2,h3⟩
theorem Hd2.upd{H:Hp}{hp:Addr}{xs ys:List V}(e:H hp=some (.lst xs)){h:List Kd×Kd}{u:V}(z:Hd2 H hp h u):Hd2 (upd H hp (.lst ys)) hp h u:=by
 obtain⟨t,lp,e1,h1,h2,h3⟩:=z
 exact⟨t,lp,e1,by rw[B0 λz=>by rw[z,e]at h1;cases h1];exact h1,by rw[B0 h3];exact h2,h3⟩
theorem YS{α β:Type}{R:α->β->Prop}{xs:List α}{ys:List β}(h:All2 R xs ys){x:α}{y:β}(hx:R x y):∀k:Nat,All2 R (xs.set k x) (ys.set k y):=by
 induction h with
 |nil=>exact λk=> .nil
 |cons h1 h2 ih=>
  intro k
  cases k with
  |zero=>exact .cons hx h2
  |succ k=>exact .cons h1 (ih k)
theorem dcZ(m:Nat):(List.replicate m [V.str "n"]).flatten=(List.replicate m Kd.n).map kv:=by
 rw[v_n]
 induction m with
 |zero=>rfl
 |succ m ih=>rw[replicate_succ,replicate_succ,flatten_cons,ih];rfl
theorem bqZ{j:Nat}(h:j<6):∃c k,("nnlLtF":Str).cps.toList[j]? =some c/\V.str ⟨#[c]⟩=kv k/\Bas k:=by
 have e:("nnlLtF":Str).cps.toList=[110,110,108,76,116,70]:=by decide +kernel
 rw[e]
 match j,h with
 |0,_=>exact⟨_,.n,rfl,rfl,.inl rfl⟩
 |1,_=>exact⟨_,.n,rfl,rfl,.inl rfl⟩
 |2,_=>exact⟨_,.l,rfl,rfl,.inr (.inr (.inl rfl))⟩
 |3,_=>exact⟨_,.L,rfl,rfl,.inr (.inr (.inr (.inl rfl)))⟩
 |4,_=>exact⟨_,.t,rfl,rfl,.inr (.inl rfl)⟩
 |5,_=>exact⟨_,.F,rfl,rfl,.inr (.inr (.inr (.inr rfl)))⟩
theorem cPZ{j:Nat}(h:j<6):∃c k,("nnlLtl":Str).cps.toList[j]? =some c/\V.str ⟨#[c]⟩=kv k/\(k=.n\/k=.t\/k=.l\/k=.L):=by
 have e:("nnlLtl":Str).cps.toList=[110,110,108,76,116,108]:=by decide +kernel
 rw[e]
 match j,h with
 |0,_=>exact⟨_,.n,rfl,rfl,.inl rfl⟩
 |1,_=>exact⟨_,.n,rfl,rfl,.inl rfl⟩
 |2,_=>exact⟨_,.l,rfl,rfl,.inr (.inr (.inl rfl))⟩
 |3,_=>exact⟨_,.L,rfl,rfl,.inr (.inr (.inr rfl))⟩
 |4,_=>exact⟨_,.t,rfl,rfl,.inr (.inl rfl)⟩
 |5,_=>exact⟨_,.l,rfl,rfl,.inr (.inr (.inl rfl))⟩
section
variable{P:Program}{w:World}{K:FZ}{mg:Str->Option Value}{base:Heap}{f:Addr}{fd:FuncData}
noncomputable def a2Z(hs:Hs)(main m:Nat)(mt:Kd):Prop:=hs[main]? =some (List.replicate m .n,mt)/\m<=3/\(mt=.n\/mt=.t\/mt=.l\/mt=.L)
inductive spHeadsLW (vs:List V) (H:Hp) (Q:VK):Prop
 |mk:∀(cell:Int) (many main:Nat),(vs=[.int cell,.int (many:Nat),.int (main:Nat)])->(main<many)->(many<=4)->(∀hp hs m mt H',Same H H'->b7Z H' hp hs->YR hs->hs.length=many->a2Z hs main m mt->Q (.ref hp) H')->spHeadsLW vs H Q
noncomputable def NJ:Sp:=λvs H Q _=>spHeadsLW vs H Q
theorem ok_law_heads(F:Fun K "_law_heads" "_law_heads" s_law_heads f fd)(B:BV.NoG mg):FnOk P w K mg base CX0 1 f fd q3L NJ:=by
 refine F.ok sc_law_heads (λvs H Q E h=> ?_) (λcdv A outer s H vs Q E hr h=> ?_)
 ·obtain⟨cell,many,main,rfl,_⟩:=h
  rfl
 obtain⟨cell,many,main,rfl,hmm,hm4,q⟩:=h
 have nd:=sc_law_heads.nd
 have hu:=hr.units0
 refine⟨_,(A6 (C5 (i:=3) nd rfl (Or.inl rfl) (D4 A4))
   (A6 (D8 (U0 PassesOwn.never rfl (L9 rfl B.range_ (A0 (pv 1) A4)) (G4 (i:=4) nd rfl (Or.inl rfl)) (A6 (C5 (i:=5) nd rfl (Or.inr rfl) (B4 D7 (B4 JP (B4 (M2 (K:=K)) (pv 0) (B4 JP A5 (pv 4))) A5) A5))
   (A6 (S6 (i:=6) nd rfl rfl (cS (N:=DI) (sc:=A9 s_law_heads) (caps:=[5]) (ns:=["_law_one"])) rfl rfl rfl (L9 rfl B.range_ (A0 (B4 D7 (pv 5) A5) A4)) (λ_ _ _ _ _=>R5) (λ_ _ _ _ _=>(FE ix_str A8 (B4 D7 (B4 D1 (B4 D1 (pv 1) A5) (ixE K w (D4 (A0 A5 (A0 A5 (A0 A5 A4)))) (pv 0))) A5) (λ_ _=>rfl))))
   (A7 (C0 (M9 (K:=K) PySem.F.plainAttrs_list PySem.F.slot_list_append PySem.F.type_list_append C3 (pv 3) (A0 (B7 (A0 (pv 6) (A0 (FE ix_str A8 (B4 D7 (B4 D1 (pv 5) A5) A5) (λ_ _=>rfl)) A4))) A4))))))))
   (A6 (P8 (B7 (A0 (B4 JP (D4 (A0 A8 A4)) (B9 (J9 (K:=K)) rfl B.len_ E8 (A0 (ixE K w (ixE K w (pv 3) (pv 2)) A5) A4))) (A0 (FE ix_str A8 (B4 D7 (pv 0) A5) (λ_ _=>rfl)) A4))) (W3 (pv 3) (pv 2) S8))
   (A7 (B5 (pv 3)))))), ?_⟩
 refine⟨zero_le _,λhp hhp=> ?_⟩
 have s0:=A3 hhp (.lst [])
 have x0:upd H hp (.lst []) hp=some (.lst []):=A2
 show M0 _ _ _ [some (.int cell),some (.int (many:Nat)),some (.int (main:Nat)),some (.ref hp),none,none,none] (upd H hp (.lst []))
 generalize upd H hp (.lst [])=H0 at s0 x0⊢
 refine⟨fun σ' H'=>∃x4 x5 x6 us hs,σ'=[some (.int cell),some (.int (many:Nat)),some (.int (main:Nat)),some (.ref hp),x4,x5,x6]/\Same H H'/\H' hp=some (.lst us)/\All2 (Hd2 H' hp) hs us/\hs.length=many/\YR hs, ?_, ?_⟩
 ·refine⟨_,rfl,(many:Nat),rfl,by omega,by omega,Z2 (n:=many) (λi σ' H'=>∃x4 x5 x6 us hs,σ'=[some (.int cell),some (.int (many:Nat)),some (.int (main:Nat)),some (.ref hp),x4,x5,x6]/\Same H H'/\H' hp=some (.lst us)/\All2 (Hd2 H' hp) hs us/\hs.length=i/\YR hs) ⟨none,none,none,[],[],rfl,s0,x0,.nil,rfl,λh hh=>(nomatch hh)⟩ ?_ (λ_ _ h=>h)⟩
  rintro i σ H1 hi ⟨x4,x5,x6,us,hs,rfl,s1,hus,hA,hli,hok⟩
  have lus:=hA.len
  refine⟨_,rfl,_,rfl,.inl ⟨_,_,rfl,rfl,.inl ⟨by decide,by decide⟩,.inl ⟨_,_,rfl,rfl,.inl ⟨_,_,rfl,rfl,.inr ⟨by decide,by decide⟩,_,_,rfl,rfl,(by decide:(0:Int)<2147483647), ?_⟩⟩⟩⟩
  show M0 _ _ _ [some (.int cell),some (.int (many:Nat)),some (.int (main:Nat)),some (.ref hp),some (.int (0+(i:Nat))),some (.int ((cell+7919*(0+(i:Nat)))*48271%2147483647)),x6] H1
  generalize(cell+7919*(0+(i:Nat)))*48271%2147483647=one
  obtain⟨m4,(e4:one%4=(m4:Int)),hm4'⟩:=U3 one (m:=4) (by decide)
  refine⟨_,rfl,_,_,rfl,rfl,(by decide:(0:Int)<4),(m4:Int),congrArg (λz=> [V.int z]) e4,by omega,by omega,O5 (n:=m4) (λj ys H2=>Same H1 H2/\∃ks:List Kd,ys=ks.map kv/\ks.length=j/\∀k∈ks,Bas k) ⟨Same.refl _,[],rfl,rfl,λk hk=>(nomatch hk)⟩ ?_ ?_ ?_⟩
  ·rintro j ys H2 hj ⟨_,ks,rfl,hk,_⟩
   rw[length_map,hk]
   exact le_trans hj (le_trans (le_of_lt hm4') (by decide))
  ·rintro j ys H2 hj ⟨s2,ks,rfl,hk,hb⟩
   obtain⟨dv,hdv,dp⟩:∃dv:Int,[V.int 1,V.int 6,V.int 36][j]? =some (.int dv)/\0<dv/\dv<2^60:=by
    have:j=0\/j=1\/j=2:=by omega
    rcases this with rfl|rfl|rfl
    ·exact⟨1,rfl,by decide,by decide⟩
    ·exact⟨6,rfl,by decide,by decide⟩
    ·exact⟨36,rfl,by decide,by decide⟩
   obtain⟨g,(eg:(one.fdiv 4).fdiv dv%6=(g:Int)),hg⟩:=U3 ((one.fdiv 4).fdiv dv) (m:=6) (by decide)
   obtain⟨cc,k,t2,t3,hkb⟩:=bqZ hg
   refine⟨_,rfl,_,_,rfl,rfl,lg (by decide) (by decide),z3,λl hl=>⟨_,rfl,.inl ⟨l,_,(j:Nat),_,rfl,(by rw[Int.zero_add]),SqL.of A2,C9 hdv,_,_,rfl,rfl,lg dp.1 dp.2,_,_,rfl,rfl,(by decide:(0:Int)<6),_,(g:Int),cc,rfl,congrArg V.int eg,by decide +kernel,C9 t2,s2.trans (A3 hl _),ks++ [k], ?_, ?_, ?_⟩⟩⟩
   ·rw[t3,map_append];rfl
   ·rw[length_append,hk];rfl
   ·intro x hx
    rcases mem_append.mp hx with hx|hx
    ·exact hb x hx
    ·rw[sZ hx];exact hkb
  rintro ys H2 ⟨s2,ks,rfl,hk,hb⟩
  intro lp hlp
  have s3:=A3 hlp (.lst (ks.map kv))
  have x3:upd H2 lp (.lst (ks.map kv)) lp=some (.lst (ks.map kv)):=A2
  have nlp:lp≠hp:=λz=>by rw[z,s2 _ _ hus]at hlp;cases hlp
  show M0 _ _ _ [some (.int cell),some (.int (many:Nat)),some (.int (main:Nat)),some (.ref hp),some (.int (0+(i:Nat))),some (.int one),some (.ref lp)] (upd H2 lp (.lst (ks.map kv)))
  generalize upd H2 lp (.lst (ks.map kv))=H3 at s3 x3⊢
  obtain⟨g,(eg:one.fdiv 997%6=(g:Int)),hg⟩:=U3 (one.fdiv 997) (m:=6) (by decide)
  obtain⟨cc,k,t2,t3,hkb⟩:=bqZ hg
  have hus3:=s3 _ _ (s2 _ _ hus)
  refine⟨_,rfl,.inl ⟨rfl,_,SqL.of hus3⟩,_,rfl,_,rfl,_,_,rfl,rfl,lg (by decide) (by decide),_,_,rfl,rfl,(by decide:(0:Int)<6),_,(g:Int),cc,rfl,congrArg V.int eg,by decide +kernel,C9 t2,z2,λt ht=> ?_⟩
  have s4:=A3 ht (.tup [.ref lp,.str ⟨#[cc]⟩])
  have hus4:=s4 _ _ hus3
  have hdA:All2 (Hd2 (upd H3 t (.tup [.ref lp,.str ⟨#[cc]⟩])) hp) (hs++ [(ks,k)]) (us++ [.ref t]):=(hA.imp λ_ _ z=>z.same (s2.trans (s3.trans s4))).app (.cons ⟨t,lp,rfl,by rw[A2,t3],s4 _ _ x3,nlp⟩ .nil)
  refine⟨hp,us,.ref t,rfl,rfl,hus4,big_ _ (by rw[<-lus];omega),_,_,_,us++ [.ref t],hs++ [(ks,k)],rfl,Y1 (s1.trans (s2.trans (s3.trans s4))) hhp _,A2,hdA.imp λ_ _ z=>z.upd hus4,by rw[length_append,hli];rfl, ?_⟩
  intro h hh
  rcases mem_append.mp hh with hh|hh
  ·exact hok h hh
  ·rw[sZ hh];exact⟨by show ks.length<=3;omega,hb,hkb⟩
 rintro _ H1 ⟨x4,x5,x6,us,hs,rfl,s1,hus,hA,hli,hok⟩
 have lus:=hA.len
 obtain⟨⟨ps,k0⟩,hps⟩:∃h,hs[main]? =some h:=⟨_,List.getElem?_eq_getElem (by omega)⟩
 obtain⟨u,hu1,t,lp,rfl,ht,hlp,nlp⟩:=E3 hA hps
 obtain⟨p3,pb,tb⟩:=hok _ (mem_of_getElem? hps)
 simp only at ht hlp p3
 obtain⟨g,(eg:cell%6=(g:Int)),hg⟩:=U3 cell (m:=6) (by decide)
 obtain⟨cc,mt,t2,t3,hmt⟩:=cPZ hg
 have lps:(ps.map kv).length=ps.length:=length_map ..
 refine⟨z1,λln hln=> ?_⟩
 have s2:=A3 hln (.lst [.str "n"])
 refine⟨_,rfl,_,rfl,(ixL (s2 _ _ hus) (C9 hu1) (ixT (s2 _ _ ht) (C9 (j:=0) rfl) ⟨_,_,rfl,.inl ⟨_,SqL.of (s2 _ _ hlp),rfl⟩,.inr (.inr ⟨ln,_,_,rfl,rfl,A2,by omega,by rw[lps];omega, ?_,λlr hlr=> ?_⟩)⟩))⟩
 ·rw[lps,Int.toNat_natCast]
  show 1*ps.length<=sizeLine
  rw[Nat.one_mul]
  exact le_trans p3 (by decide)
 have er:(List.replicate (((ps.map kv).length:Nat):Int).toNat [V.str "n"]).flatten=(List.replicate ps.length Kd.n).map kv:=by rw[lps,Int.toNat_natCast,dcZ]
 have s3:=A3 hlr (.lst (List.replicate (((ps.map kv).length:Nat):Int).toNat [V.str "n"]).flatten)
 have x3:=A2 (H:=upd H1 ln (.lst [.str "n"])) (a:=lr) (o:=.lst (List.replicate (((ps.map kv).length:Nat):Int).toNat [V.str "n"]).flatten)
 rw[er]at x3 s3
 have nlr:lr≠hp:=λz=>by rw[z,s2 _ _ hus]at hlr;cases hlr
 refine⟨_,rfl,_,_,rfl,rfl,(by decide:(0:Int)<6),_,(g:Int),cc,rfl,congrArg V.int eg,by decide +kernel,C9 t2,z2,λt9 ht9=> ?_⟩
 rw[er]at ht9⊢
 have s4:=A3 ht9 (.tup [.ref lr,.str ⟨#[cc]⟩])
 have hus4:=s4 _ _ (s3 _ _ (s2 _ _ hus))
 have hdA:=YS (hA.imp λ_ _ z=>z.same (s2.trans (s3.trans s4))) (x:=(List.replicate ps.length Kd.n,mt)) (y:=.ref t9) ⟨t9,lr,rfl,by rw[A2,t3],s4 _ _ x3,nlr⟩ main
 have hix:ixN us.length (main:Int)=some main:=by
  unfold ixN
  rw[if_pos (by omega),if_pos (by omega)]
  simp
 refine⟨_,rfl,_,rfl,hp,us,(main:Nat),main,rfl,rfl,hus4,hix, ?_⟩
 refine⟨_,rfl,q hp (hs.set main (List.replicate ps.length .n,mt)) ps.length mt _ (Y1 (s1.trans (s2.trans (s3.trans s4))) hhp _) ⟨_,A2, ?_⟩ ?_ (by rw[List.length_set];exact hli) ⟨?_,p3,hmt⟩⟩
 ·refine(hdA.imp λ_ _ z=>z.upd (ys:=us.set main (.ref t9)) hus4).imp λ_ _ z=> ?_
  obtain⟨t',lp',e1,e2,e3,_⟩:=z
  exact⟨t',lp',e1,e2,e3⟩
 ·intro h hh
  rcases List.mem_or_eq_of_mem_set hh with hh|hh
  ·exact hok h hh
  ·rw[hh]
   refine⟨by show(List.replicate ps.length Kd.n).length<=3;rw[length_replicate];exact p3,λk hk=> .inl (List.eq_of_mem_replicate hk), ?_⟩
   show Bas mt
   rcases hmt with h|h|h|h
   ·exact .inl h
   ·exact .inr (.inl h)
   ·exact .inr (.inr (.inl h))
   ·exact .inr (.inr (.inr (.inl h)))
 ·rw[List.getElem?_set_self (by omega)]
end
noncomputable abbrev s_law_program:Stmt:=CL.top 45
noncomputable abbrev Z7:List Str:=["_law_script","_law_many","_law_main","_law_heads_here","_law_blocks","_law_b","_law_numbers"]
theorem sc_law_program:FnScope Z7 VS (A9 s_law_program):=fS
section
variable{P:Program}{w:World}{K:FZ}{mg:Str->Option Value}{base:Heap}{f T4 M3 LH LO:Addr}{fd T8 M6 LP LF:FuncData}
inductive spBlockAW(vs:List V)(H:Hp)(Q:VK)(E:XK):Prop
 |mk:∀hs,(JQ hs vs H Q E)->spBlockAW vs H Q E
noncomputable def MA:Sp:=λvs H Q E=>spBlockAW vs H Q E
theorem block_any(h:∀hs,FnOk P w K mg base CX0 5 f fd q6L (JQ hs)):FnOk P w K mg base CX0 5 f fd q6L MA:=
 ⟨λvs H Q E ⟨hs,z⟩=>(h hs).len vs H Q E z,λA outer s H args us vs Q E hr he hb hv ⟨hs,z⟩=>(h hs).run A outer s H args us vs Q E hr he hb hv z⟩
structure PgAt (H:Hp) (bl nu:Addr) (hs:Hs) (bs:List Bk) (main m:Nat) (mt:Kd) (xs:List Int):Prop where
 bl:∃vb,H bl=some (.lst vb)/\All2 (BAt H) bs vb
 ok:YC hs bs
 len:bs.length=hs.length
 few:hs.length<=4
 mh:a2Z hs main m mt
 nu:H nu=some (.lst (xs.map V.int))
 xl:xs.length=m
 xb:∀i∈xs,Bd i
inductive spProgramW (K:FZ) (vs:List V) (H:Hp) (Q:VK):Prop
 |mk:∀(a:Addr) (ns:List Int),(vs=[.ref a])->(SqL K H a (ns.map V.int))->(ns.length<=63)->(∀t bl nu hs bs main m mt xs H',Same H H'->H' t=some (.tup [.ref bl,.int (main:Nat),.ref nu])->PgAt H' bl nu hs bs main m mt xs->Q (.ref t) H')->spProgramW K vs H Q
noncomputable def CQ(K:FZ):Sp:=λvs H Q _=>spProgramW K vs H Q
theorem ok_law_program(F:Fun K "_law_program" "_law_program" s_law_program f fd)(B:BV.NoG mg)
  (E9:Cn P w K mg base CX0 1 "_law_cell_at" awZ (BB K))
  (D9:Cn P w K mg base CX0 1 "_law_number" q4L spNumB)
  (W8:Cn P w K mg base CX0 1 "_law_heads" q3L NJ)
  (X0:Cn P w K mg base CX0 5 "_law_block" q6L MA):
  FnOk P w K mg base CX0 6 f fd VS (CQ K):=by
 obtain⟨T4,T8,E9,L3,L5,L4⟩:=E9
 obtain⟨M3,M6,D9,M7,M4,M8⟩:=D9
 obtain⟨LH,LP,W8,LE,LU,KN⟩:=W8
 obtain⟨LO,LF,X0,LT,KQ,LL⟩:=X0
 refine F.ok sc_law_program (λvs H Q E h=> ?_) (λcdv A outer s H vs Q E hr h=> ?_)
 ·obtain⟨a,ns,rfl,_⟩:=h
  rfl
 obtain⟨a,ns,rfl,hS,hns,q⟩:=h
 have nd:=sc_law_program.nd
 have hu:=hr.units0
 refine⟨_,(A6 (C5 (i:=1) nd rfl (Or.inl rfl) (B4 (M2 (K:=K)) A5 (B4 D7 (B1 E9 (hr.mono (by omega)) rfl L4 L5 L3 .nil B8 (A0 (pv 0) (A0 A5 A4))) A5)))
   (A6 (C5 (i:=2) nd rfl (Or.inl rfl) (B4 D7 (B4 D1 (B1 E9 (hr.mono (by omega)) rfl L4 L5 L3 .nil B8 (A0 (pv 0) (A0 A5 A4))) A5) (pv 1)))
   (A6 (C5 (i:=3) nd rfl (Or.inl rfl) (B1 W8 (hr.mono (by omega)) rfl KN LU LE .nil B8 (A0 (B1 E9 (hr.mono (by omega)) rfl L4 L5 L3 .nil B8 (A0 (pv 0) (A0 A5 A4))) (A0 (pv 1) (A0 (pv 2) A4)))))
   (A6 (C5 (i:=4) nd rfl (Or.inl rfl) (D4 A4))
   (A6 (D8 (U0 PassesOwn.never rfl (L9 rfl B.range_ (A0 (pv 1) A4)) (G4 (i:=5) nd rfl (Or.inl rfl)) (A7 (C0 (M9 (K:=K) PySem.F.plainAttrs_list PySem.F.slot_list_append PySem.F.type_list_append C3 (pv 4) (A0 (B1 X0 (hr.mono (by omega)) rfl LL KQ LT .nil B8 (A0 (G5 (W7 (K:=K)) (pv 0) (J3 (B4 (M2 (K:=K)) A5 (B4 JP A5 (pv 5)))) (J3 (B4 (M2 (K:=K)) A5 (B4 JP A5 (pv 5))))) (A0 (pv 3) (A0 (pv 5) A4)))) A4))))))
   (A6 (S6 (i:=6) nd rfl rfl (cS (N:=Z7) (sc:=A9 s_law_program) (caps:=[0]) (ns:=VS)) rfl rfl rfl (L9 rfl B.range_ (A0 (B9 (J9 (K:=K)) rfl B.len_ E8 (A0 (ixE K w (ixE K w (pv 3) (pv 2)) A5) A4)) A4)) (λ_ _ _ _ _=>R5) (λ_ _ _ _ _=>(B1 D9 (hr.mono (by omega)) rfl M8 M4 M7 .nil B8 (A0 (B1 E9 (hr.mono (by omega)) rfl L4 L5 L3 .nil B8 (A0 (pv 1) (A0 (B4 (M2 (K:=K)) A5 (pv 0)) A4))) A4))))
   (A7 (B5 (B7 (A0 (pv 4) (A0 (pv 2) (A0 (pv 6) A4)))))))))))), ?_⟩
 have hcs:∀lo hi,∃cs:List Int,G9 (ns.map V.int) lo hi=cs.map V.int:=λlo hi=>by
  refine⟨((ns.drop (HT.sIx (ns.map V.int).length 0 lo)).take (HT.sIx (ns.map V.int).length (ns.map V.int).length hi - HT.sIx (ns.map V.int).length 0 lo)), ?_⟩
  unfold G9
  rw[<-map_drop,<-List.map_take]
 obtain⟨k4,(e4:P3 ns 0%4=(k4:Int)),h4⟩:=U3 (P3 ns 0) (m:=4) (by decide)
 refine⟨_,rfl,a,ns,0,rfl,hS,by decide,_,_,rfl,rfl,(by decide:(0:Int)<4),.inl ⟨_,_,rfl,rfl, ?_⟩⟩
 show M0 _ _ _ [some (.ref a),some (.int (1+P3 ns 0%4)),none,none,none,none,none] H
 obtain⟨many,em⟩:∃k:Nat,(1:Int)+P3 ns 0%4=(k:Int):=⟨1+k4,by rw[e4];omega⟩
 have hm1:1<=many/\many<=4:=by rw[e4]at em;omega
 rw[em]
 obtain⟨main,(emn:(P3 ns 0).fdiv 4%(many:Nat)=(main:Int)),hmn⟩:=U3 ((P3 ns 0).fdiv 4) (m:=many) (by omega)
 refine⟨_,rfl,a,ns,0,rfl,hS,by decide,_,_,rfl,rfl,lg (by decide) (by decide),_,rfl,_,_,rfl,rfl,(by omega:(0:Int)<(many:Nat)), ?_⟩
 show M0 _ _ _ [some (.ref a),some (.int (many:Int)),some (.int ((P3 ns 0).fdiv 4%(many:Nat))),none,none,none,none] H
 rw[emn]
 refine⟨_,rfl,a,ns,1,rfl,hS,by decide,_,rfl,_,rfl,P3 ns 1,many,main,rfl,hmn,hm1.2,λhp hs m mt H1 s1 hHs hok hlen hmh=> ?_⟩
 refine⟨zero_le _,λbl hbl=> ?_⟩
 have s2:=A3 hbl (.lst [])
 have x2:upd H1 bl (.lst []) bl=some (.lst []):=A2
 show M0 _ _ _ [some (.ref a),some (.int (many:Int)),some (.int (main:Int)),some (.ref hp),some (.ref bl),none,none] (upd H1 bl (.lst []))
 generalize upd H1 bl (.lst [])=H2 at s2 x2⊢
 have hbl0:H bl=none:=by
  cases e:H bl with
  |none=>rfl
  |some o=>rw[s1 _ _ e]at hbl;cases hbl
 refine⟨fun σ' H'=>∃x5 vb bs,σ'=[some (.ref a),some (.int (many:Int)),some (.int (main:Int)),some (.ref hp),some (.ref bl),x5,none]/\Same H1 H'/\H' bl=some (.lst vb)/\All2 (BAt H') bs vb/\bs.length=many/\∀b bk,bs[b]? =some bk->∃ps k tys,hs[b]? =some (ps,k)/\BkOk hs b bk ps k tys, ?_, ?_⟩
 ·refine⟨_,rfl,(many:Nat),rfl,by omega,by omega,Z2 (n:=many) (λi σ' H'=>∃x5 vb bs,σ'=[some (.ref a),some (.int (many:Int)),some (.int (main:Int)),some (.ref hp),some (.ref bl),x5,none]/\Same H1 H'/\H' bl=some (.lst vb)/\All2 (BAt H') bs vb/\bs.length=i/\∀b bk,bs[b]? =some bk->∃ps k tys,hs[b]? =some (ps,k)/\BkOk hs b bk ps k tys) ⟨none,[],[],rfl,s2,x2,.nil,rfl,λb bk h=>by simp at h⟩ ?_ (λ_ _ h=>h)⟩
  rintro i σ H3 hi ⟨x5,vb,bs,rfl,s3,hvb,hB,hli,hbk⟩
  obtain⟨⟨ps,k⟩,hps⟩:∃h,hs[i]? =some h:=⟨_,List.getElem?_eq_getElem (by omega)⟩
  obtain⟨us,hus,hhs⟩:=id hHs
  refine⟨_,rfl,.inl ⟨rfl,_,SqL.of hvb⟩,_,rfl,_,rfl,.inl ⟨_,_,rfl,rfl,.inl ⟨by decide,by decide⟩,.inl ⟨_,_,rfl,rfl,_,rfl,_,rfl,.inl ⟨_,_,rfl,rfl,.inl ⟨by decide,by decide⟩,.inl ⟨_,_,rfl,rfl,_,rfl,.inl (.inl ⟨a,_,rfl,s3.seq (s1.seq hS),λce hce=> ?_⟩)⟩⟩⟩⟩⟩
  obtain⟨cs,ecs⟩:=hcs (some (7+8*(0+(i:Int)))) (some (15+8*(0+(i:Int))))
  have s4:=A3 hce (.lst (G9 (ns.map V.int) (some (7+8*(0+(i:Int)))) (some (15+8*(0+(i:Int))))))
  have hcl:cs.length<=8:=by
   have:=congrArg List.length ecs
   rw[length_map]at this
   rw[<-this]
   unfold G9
   rw[length_take]
   have e1:(7:Int)+8*(0+(i:Int))=((7+8*i:Nat):Int):=by omega
   have e2:(15:Int)+8*(0+(i:Int))=((15+8*i:Nat):Int):=by omega
   rw[e1,e2,HT.sIx_nat,HT.sIx_nat]
   omega
  refine⟨_,rfl,_,rfl,hs,ce,hp,cs,i,ps,k,(by rw[Int.zero_add];rfl), ?_,hcl, ?_,hok,by omega,hps,λbk u H5 s5 hu5 hbo=> ?_⟩
  ·rw[A2,ecs]
  ·have sS:=s3.trans s4
   exact⟨us,sS _ _ hus,hhs.imp λ_ _ z=>let⟨t,lp,e,h1,h2⟩:=z;⟨t,lp,e,sS _ _ h1,sS _ _ h2⟩⟩
  have hvb5:=s5 _ _ (s4 _ _ hvb)
  have hB5:All2 (BAt H5) (bs++ [bk]) (vb++ [u]):=(hB.imp λ_ _ z=>z.mo (B6 (s4.trans s5))).app (.cons hu5 .nil)
  refine⟨bl,vb,u,rfl,rfl,hvb5,big_ _ (by rw[<-hB.len];omega),_,vb++ [u],bs++ [bk],rfl,Y1 (s3.trans (s4.trans s5)) hbl _,A2,hB5.imp λ_ _ z=>z.mo (JR hvb5),by rw[length_append,hli];rfl,λb bk' hb=> ?_⟩
  rcases lt_or_ge b bs.length with hlt|hge
  ·rw[getElem?_append_left hlt]at hb
   exact hbk b bk' hb
  ·have eb:b=bs.length:=by
    have:=(List.getElem?_eq_some_iff.mp hb).1
    simp at this;omega
   subst eb
   rw[V6 rfl]at hb
   cases hb
   obtain⟨tys,hbo⟩:=hbo
   rw[hli]
   exact⟨ps,k,tys,hps,hbo⟩
 rintro _ H3 ⟨x5,vb,bs,rfl,s3,hvb,hB,hli,hbk⟩
 obtain⟨us,hus,hhs⟩:=id hHs
 obtain⟨hm0,hm3,hmt⟩:=id hmh
 obtain⟨u,hu1,t,lp,rfl,ht,hlp⟩:=E3 hhs hm0
 simp only at ht hlp
 have lrep:((List.replicate m Kd.n).map kv).length=m:=by rw[length_map,length_replicate]
 refine⟨_,rfl,_,rfl,(ixL (s3 _ _ hus) (C9 hu1) (ixT (s3 _ _ ht) (C9 (j:=0) rfl) ⟨_,_,rfl,.inl ⟨_,SqL.of (s3 _ _ hlp),rfl⟩,(m:Nat),(by rw[lrep]),by omega,by omega,O5 (n:=m) (λj ys H4=>H4=H3/\∃xs:List Int,ys=xs.map V.int/\xs.length=j/\∀i∈xs,Bd i) ⟨rfl,[],rfl,rfl,λi hi=>(nomatch hi)⟩ ?_ ?_ ?_⟩))⟩
 ·rintro j ys H4 hj ⟨_,xs,rfl,hx,_⟩
  rw[length_map,hx]
  exact le_trans hj (le_trans hm3 (by decide))
 ·rintro j ys H4 hj ⟨rfl,xs,rfl,hx,hb⟩
  refine⟨_,rfl,_,rfl,.inl ⟨_,_,rfl,rfl,a,ns,_,rfl,s3.seq (s1.seq hS),by omega,_,rfl,λn hn=>⟨rfl,xs++ [n], ?_, ?_, ?_⟩⟩⟩
  ·rw[map_append];rfl
  ·rw[length_append,hx];rfl
  ·intro x hx'
   rcases mem_append.mp hx' with hx'|hx'
   ·exact hb x hx'
   ·rw[sZ hx'];exact hn
 rintro ys H4 ⟨rfl,xs,rfl,hx,hb⟩
 intro nu hnu
 have s5:=A3 hnu (.lst (xs.map V.int))
 refine⟨_,rfl,_,rfl,_,rfl,z3,λt9 ht9=> ?_⟩
 have s6:=A3 ht9 (.tup [.ref bl,.int (main:Nat),.ref nu])
 refine q t9 bl nu hs bs main m mt xs _ (s1.trans (s3.trans (s5.trans s6))) A2 ⟨⟨vb,s6 _ _ (s5 _ _ hvb),hB.imp λ_ _ z=>z.mo (B6 (s5.trans s6))⟩,λb ps k hb=> ?_,by omega,by omega,hmh,s6 _ _ A2,hx,hb⟩
 have hlt:b<bs.length:=by
  have:=(List.getElem?_eq_some_iff.mp hb).1
  omega
 obtain⟨ps',k',tys,h1,h2⟩:=hbk b _ (List.getElem?_eq_getElem hlt)
 rw[hb]at h1
 cases h1
 exact⟨_,tys,List.getElem?_eq_getElem hlt,h2⟩
end
end PG
namespace K67
open PySem L2 CL SW MC MT
open BV hiding ifT ifF NoG top
seal PE PT PW PA PS PSs PTs PI PG PGs PO
noncomputable def DqS(H:Hp):Nat->V->V->Prop
 |0,x,y=>Z6 x=true/\x=y
 |n+1,x,y=>(Z6 x=true/\x=y)\/∃a b xs ys,x=.ref a/\y=.ref b/\((H a=some (.tup xs)/\H b=some (.tup ys))\/(H a=some (.lst xs)/\H b=some (.lst ys)))/\xs.length<=1000/\All2 (DqS H n) xs ys
theorem DqS.mono{H H':Hp}(m:Same H H'):∀(n:Nat) {x y:V},DqS H n x y->DqS H' n x y
 |0,_,_,h=>h
 |n+1,_,_,h=>by
  rcases h with h|⟨a,b,xs,ys,e1,e2,h,hl,hA⟩
  ·exact .inl h
  ·refine .inr ⟨a,b,xs,ys,e1,e2, ?_,hl,hA.imp λ_ _ z=>DqS.mono m n z⟩
   rcases h with⟨h1,h2⟩|⟨h1,h2⟩
   ·exact .inl ⟨m _ _ h1,m _ _ h2⟩
   ·exact .inr ⟨m _ _ h1,m _ _ h2⟩
section
variable{P:Program}{w:World}{K:FZ}{mg:Str->Option Value}{base:Heap}{f:Addr}{fd:FuncData}
inductive spSameDW(n:Nat)(vs:List V)(H:Hp)(Q:VK):Prop
 |mk:∀x y,(vs=[x,y])->(DqS H n x y)->(∀H',Same H H'->Q (.bl true) H')->spSameDW n vs H Q
noncomputable def P1(n:Nat):Sp:=λvs H Q _=>spSameDW n vs H Q
theorem DE{n:Nat}{sp:Sp}(F:Fun K "_law_same" "_law_same" s_law_same f fd)(B:NoG mg)(E7:FnOk P w K mg base CX0 n f fd q9L sp)(hsp:∀m,n=m+1->sp=P1 m)
  (G6:Binds K fd q9L [])(G7:kZ K (.ref f)=true)(G8:mg "_law_same"=some (.ref f)):FnOk P w K mg base CX0 (n+1) f fd q9L (P1 n):=by
 refine F.ok sc_law_same (λvs H Q E h=> ?_) (λcdv A outer s H vs Q E hr h=> ?_)
 ·obtain⟨x,y,rfl,_⟩:=h
  rfl
 obtain⟨x,y,rfl,hd,q⟩:=h
 have nd:=sc_law_same.nd
 have hu:=hr.units0
 have zz:(1000:Nat)<=sizeLine:=by decide
 refine⟨_,(A6 (D8 (C8 (PW.pt (X8 (B2 (kNe (K:=K) hu) (B9 (S4 (K:=K)) rfl B.isinstance_ D3 (A0 (pv 1) (A0 (K8 (v:=.ty "list") rfl B.list_ N0 rfl) A4))) (B9 (S4 (K:=K)) rfl B.isinstance_ D3 (A0 (pv 0) (A0 (K8 (v:=.ty "list") rfl B.list_ N0 rfl) A4))) rfl) (W0 (B2 (kNe (K:=K) hu) (B9 (S4 (K:=K)) rfl B.isinstance_ D3 (A0 (pv 1) (A0 (K8 (v:=.ty "tuple") rfl B.tuple_ P4 rfl) A4))) (B9 (S4 (K:=K)) rfl B.isinstance_ D3 (A0 (pv 0) (A0 (K8 (v:=.ty "tuple") rfl B.tuple_ P4 rfl) A4))) rfl)))) (A7 (B5 W5)) C1))
   (A6 (C8 (N1 (K:=K) (B9 (bMZ (K:=K)) rfl B.isinstance_ D3 (A0 (pv 1) (A0 (B7 (A0 (K8 (v:=.ty "list") rfl B.list_ N0 rfl) (A0 (K8 (v:=.ty "tuple") rfl B.tuple_ P4 rfl) A4))) A4))) (λ_=>rfl)) (A7 (B5 (CD (N2 (kEq (K:=K) hu) (B9 (J9 (K:=K)) rfl B.len_ E8 (A0 (pv 0) A4)) (B9 (J9 (K:=K)) rfl B.len_ E8 (A0 (pv 1) A4)) rfl) (CJ (B9 (YX (K:=K) rfl) rfl B.all_ RJ (A0 (Z3 (cS (N:=FN) (sc:=A9 s_law_same) (caps:=[0,1]) (ns:=q9L)) rfl rfl rfl (L9 rfl B.range_ (A0 (B9 (J9 (K:=K)) rfl B.len_ E8 (A0 (pv 1) A4)) A4)) (λ_ _ _ _ _=>R5) (λ_ _ _ _ _=>(B1 E7 (hr.mono (by omega)) rfl G8 G7 G6 .nil B8 (A0 (ixE K w (pv 1) (pv 0)) (A0 (ixE K w (pv 2) (pv 0)) A4))))) A4)))))) C1)
   (A6 (D8 (C8 (PW.pt (X8 (B2 (kNe (K:=K) hu) (B9 (S4 (K:=K)) rfl B.isinstance_ D3 (A0 (pv 1) (A0 (K8 (v:=.ty "bool") rfl B.bool_ RT rfl) A4))) (B9 (S4 (K:=K)) rfl B.isinstance_ D3 (A0 (pv 0) (A0 (K8 (v:=.ty "bool") rfl B.bool_ RT rfl) A4))) rfl) (W0 (B2 (kNe (K:=K) hu) (B9 (S4 (K:=K)) rfl B.isinstance_ D3 (A0 (pv 1) (A0 (K8 (v:=.ty "str") rfl B.str_ XS rfl) A4))) (B9 (S4 (K:=K)) rfl B.isinstance_ D3 (A0 (pv 0) (A0 (K8 (v:=.ty "str") rfl B.str_ XS rfl) A4))) rfl)))) (A7 (B5 W5)) C1))
   (A7 (B5 (CD (N2 (kEq (K:=K) hu) (B9 (S4 (K:=K)) rfl B.isinstance_ D3 (A0 (pv 1) (A0 (K8 (v:=.ty "int") rfl B.int_ QA rfl) A4))) (B9 (S4 (K:=K)) rfl B.isinstance_ D3 (A0 (pv 0) (A0 (K8 (v:=.ty "int") rfl B.int_ QA rfl) A4))) rfl) (CJ (N2 (kEq (K:=K) hu) (pv 0) (pv 1) rfl)))))))), ?_⟩
 have hd2:(Z6 x=true/\x=y)\/∃a b xs ys m t,x=.ref a/\y=.ref b/\n=m+1/\xs.length<=1000/\All2 (DqS H m) xs ys/\TyOf K H x t/\TyOf K H y t/\(∃c,kitOne K t (.type "list")=some c)/\(∃c,kitOne K t (.type "tuple")=some c)/\
   kitAny K t [.type "list",.type "tuple"]=some true/\((H a=some (.tup xs)/\H b=some (.tup ys))\/(H a=some (.lst xs)/\H b=some (.lst ys))):=by
  cases n with
  |zero=>exact .inl hd
  |succ m=>
   rcases hd with hd|⟨a,b,xs,ys,rfl,rfl,⟨ha,hb⟩|⟨ha,hb⟩,hl,hA⟩
   ·exact .inl hd
   ·exact .inr ⟨a,b,xs,ys,m,_,rfl,rfl,rfl,hl,hA,.tup ha,.tup hb,⟨_,XE⟩,⟨_,QM⟩,diZ,.inl ⟨ha,hb⟩⟩
   ·exact .inr ⟨a,b,xs,ys,m,_,rfl,rfl,rfl,hl,hA,.lst ha,.lst hb,⟨_,KB⟩,⟨_,bXZ⟩,daZ,.inr ⟨ha,hb⟩⟩
 refine⟨fun σ H'=>σ=[some x,some y]/\H=H', ?_, ?_⟩
 ·have ht:∃t c d,TyOf K H x t/\TyOf K H y t/\kitOne K t (.type "list")=some c/\kitOne K t (.type "tuple")=some d:=by
   rcases hd2 with⟨hs,rfl⟩|⟨a,b,xs,ys,m,t,_,_,_,_,_,h1,h2,⟨c,hc⟩,⟨d,hd⟩,_⟩
   ·obtain⟨t,h1,h2⟩:=NF (K:=K) (H:=H) hs
    exact⟨t,_,_,h1,h1,h2.li,h2.tu⟩
   ·exact⟨t,c,d,h1,h2,hc,hd⟩
  obtain⟨t,c,d,h1,h2,hc,hd⟩:=ht
  refine⟨_,rfl,_,_,_,_,rfl,h2,hc,_,rfl,_,_,_,_,rfl,h1,hc,.inl ⟨rfl,_,rfl,ifF (by simp) ?_⟩⟩
  exact⟨_,rfl,_,_,_,_,rfl,h2,hd,_,rfl,_,_,_,_,rfl,h1,hd,.inl ⟨rfl,_,rfl,ifF (by simp) ⟨rfl,rfl⟩⟩⟩
 rintro σ H' ⟨rfl,rfl⟩
 refine⟨_,rfl,P9,λp hp=> ?_⟩
 have s1:=A3 hp (.tup [.ty "list",.ty "tuple"])
 rcases hd2 with⟨hs,rfl⟩|⟨a,b,xs,ys,m,t,rfl,rfl,rfl,hl,hA,h1,h2,_,_,hk,hab⟩
 ·obtain⟨t,h1,hS⟩:=NF (K:=K) (H:=upd H p (.tup [.ty "list",.ty "tuple"])) hs
  obtain⟨cb,hcb⟩:=hS.bl
  obtain⟨cs,hcs⟩:=hS.st
  obtain⟨ci,hci⟩:=hS.nt
  refine⟨x,_,_,t,false,p,rfl,SqT.of A2,h1,hS.bo,_,rfl,ifF nZ ?_⟩
  refine⟨fun σ H'=>σ=[some x,some x]/\upd H p (.tup [.ty "list",.ty "tuple"])=H', ?_, ?_⟩
  ·refine⟨_,rfl,_,_,_,_,rfl,h1,hcb,_,rfl,_,_,_,_,rfl,h1,hcb,.inl ⟨rfl,_,rfl,ifF (by simp) ?_⟩⟩
   exact⟨_,rfl,_,_,_,_,rfl,h1,hcs,_,rfl,_,_,_,_,rfl,h1,hcs,.inl ⟨rfl,_,rfl,ifF (by simp) ⟨rfl,rfl⟩⟩⟩
  rintro σ H' ⟨rfl,rfl⟩
  refine⟨_,rfl,_,_,_,_,rfl,h1,hci,_,rfl,_,_,_,_,rfl,h1,hci,.inl ⟨rfl,_,rfl,ifT (by simp) ⟨_,rfl,_,rfl,.inl ⟨ayZ hs, ?_⟩⟩⟩⟩
  have e:decide (x=x)=true:=by simp
  rw[e]
  exact q _ s1
 ·have hGs:FnOk P w K mg base CX0 (m+1) f fd q9L (P1 m):=hsp m rfl▸E7
  have hlen:=hA.len
  refine⟨.ref b,_,_,t,true,p,rfl,SqT.of A2,apZ s1 h2,hk,_,rfl,ifT rfl ?_⟩
  have la:bHZ K (.ref a) (upd H p (.tup [.ty "list",.ty "tuple"])) xs.length:=by
   rcases hab with⟨ha,hb⟩|⟨ha,hb⟩
   ·exact .inr ⟨_,SqT.of (s1 _ _ ha),rfl⟩
   ·exact .inl ⟨_,SqL.of (s1 _ _ ha),rfl⟩
  have lb:bHZ K (.ref b) (upd H p (.tup [.ty "list",.ty "tuple"])) ys.length:=by
   rcases hab with⟨ha,hb⟩|⟨ha,hb⟩
   ·exact .inr ⟨_,SqT.of (s1 _ _ hb),rfl⟩
   ·exact .inl ⟨_,SqL.of (s1 _ _ hb),rfl⟩
  refine⟨_,rfl,_,_,rfl,la,_,rfl,_,_,rfl,lb,.inl ⟨rfl,_,rfl,ifT (by rw[hlen];simp) ?_⟩⟩
  refine⟨_,rfl,_,_,rfl,lb,_,rfl,by omega,by omega,O5 (n:=ys.length) (λj zs H'=>zs=List.replicate j (.bl true)/\Same (upd H p (.tup [.ty "list",.ty "tuple"])) H') ⟨rfl,Same.refl _⟩ ?_ ?_ ?_⟩
  ·rintro i zs H' hi ⟨rfl,_⟩
   rw[length_replicate]
   omega
  ·rintro i zs H' hi ⟨rfl,sm⟩
   refine CK ?_
   have hx:i<xs.length:=by omega
   obtain⟨y,hy,hxy⟩:=hA.get' (List.getElem?_eq_getElem hx)
   have e0:(0:Int)+(i:Nat)=((i:Nat):Int):=by omega
   have a1:atI xs (0+(i:Nat))=some xs[i]:=by rw[e0];exact C9 (List.getElem?_eq_getElem hx)
   have a2:atI ys (0+(i:Nat))=some y:=by rw[e0];exact C9 hy
   have fin:P1 m [xs[i],y] H' (λy H3=>List.replicate i (V.bl true)++ [y]=List.replicate (i+1) (.bl true)/\Same (upd H p (.tup [.ty "list",.ty "tuple"])) H3) E:=
    ⟨_,_,rfl,DqS.mono (s1.trans sm) _ hxy,λH3 s3=>⟨by rw[List.replicate_succ'],sm.trans s3⟩⟩
   rcases hab with⟨ha,hb⟩|⟨ha,hb⟩
   ·exact⟨_,rfl,_,rfl,.inr (.inl ⟨a,xs,_,_,rfl,rfl,SqT.of (sm _ _ (s1 _ _ ha)),a1,_,rfl,_,rfl,.inr (.inl ⟨b,ys,_,_,rfl,rfl,SqT.of (sm _ _ (s1 _ _ hb)),a2,hsp m rfl▸fin⟩)⟩)⟩
   ·exact⟨_,rfl,_,rfl,.inl ⟨a,xs,_,_,rfl,rfl,SqL.of (sm _ _ (s1 _ _ ha)),a1,_,rfl,_,rfl,.inl ⟨b,ys,_,_,rfl,rfl,SqL.of (sm _ _ (s1 _ _ hb)),a2,hsp m rfl▸fin⟩⟩⟩
  ·rintro zs H' ⟨rfl,sm⟩ D hD
   refine⟨D,List.replicate ys.length true,rfl,SqL.of ?_, ?_⟩
   ·rw[A2,List.map_replicate]
   ·have e:(List.replicate ys.length true).all id=true:=by simp
    rw[e]
    exact q _ (s1.trans (sm.trans (A3 hD _)))
theorem ok_law_sameD(F:Fun K "_law_same" "_law_same" s_law_same f fd)(B:NoG mg)
  (G6:Binds K fd q9L [])(G7:kZ K (.ref f)=true)(G8:mg "_law_same"=some (.ref f)):∀n,FnOk P w K mg base CX0 (n+1) f fd q9L (P1 n)
 |0=>DE (sp:=RD) F B SG (λm h=>nomatch h) G6 G7 G8
 |n+1=>DE F B (ok_law_sameD F B G6 G7 G8 n) (λm h=>by injection h with h;rw[h]) G6 G7 G8
end
end K67
namespace PG
open PySem L2 CL SW MC MT
open K67 (DqS)
open BV hiding ifT ifF NoG top
section
variable{CM C Pt:Addr}
theorem tb_same{H H':Hp}(hT:Tb H Pt)(s:Same H H'):Tb H' Pt:=by
 obtain⟨qs,e1,e2,e3⟩:=hT
 refine⟨qs,s _ _ e1,e2, ?_⟩
 rcases e3 with e3|⟨c2,e3,e4⟩
 ·exact .inl e3
 ·exact .inr ⟨c2,e3,s _ _ e4⟩
theorem tb_tup{H:Hp}(hT:Tb H Pt){b:Addr}{xs:List V}(h:H b=some (.tup xs)):b≠Pt:=λz=>by
 obtain⟨qs,e1,_⟩:=hT
 rw[z,e1]at h;cases h
theorem tb_lst{H:Hp}(hT:Tb H Pt){b:Addr}{xs:List V}(h:H b=some (.lst xs)):b≠Pt:=λz=>by
 obtain⟨qs,e1,_⟩:=hT
 rw[z,e1]at h;cases h
theorem dq_tup{H:Hp}{n:Nat}{a b:Addr}{xs ys:List V}(ha:H a=some (.tup xs))(hb:H b=some (.tup ys))(hl:xs.length<=1000)(h:All2 (DqS H n) xs ys):DqS H (n+1) (.ref a) (.ref b):=.inr ⟨a,b,xs,ys,rfl,rfl,.inl ⟨ha,hb⟩,hl,h⟩
theorem dq_lst{H:Hp}{n:Nat}{a b:Addr}{xs ys:List V}(ha:H a=some (.lst xs))(hb:H b=some (.lst ys))(hl:xs.length<=1000)(h:All2 (DqS H n) xs ys):DqS H (n+1) (.ref a) (.ref b):=.inr ⟨a,b,xs,ys,rfl,rfl,.inr ⟨ha,hb⟩,hl,h⟩
theorem dq_sc{H:Hp}{x:V}(h:Z6 x=true):∀n,DqS H n x x
 |0=>⟨h,rfl⟩
 |_+1=> .inl ⟨h,rfl⟩
theorem vra_uniq{cs:List Cl}:∀ {p t:PL.Pv} {x:Vl},VRa cs p x->VRa cs t x->p=t
 | .int i,t,x,h,h'=>by
  have e:x=.sc (.int i):=h
  subst e
  cases t with
  |int j=>have e:Vl.sc (.int i)=.sc (.int j):=h';injection e with e;injection e with e;rw[e]
  |bl b=>have e:Vl.sc (.int i)=.sc (.bl b):=h';injection e with e;cases e
  |nil=>have e:Vl.sc (.int i)=.sc .non:=h';injection e with e;cases e
  |cons a b=>obtain⟨k,_,_,e,_⟩:=h';cases e
 | .bl i,t,x,h,h'=>by
  have e:x=.sc (.bl i):=h
  subst e
  cases t with
  |int j=>have e:Vl.sc (.bl i)=.sc (.int j):=h';injection e with e;cases e
  |bl b=>have e:Vl.sc (.bl i)=.sc (.bl b):=h';injection e with e;injection e with e;rw[e]
  |nil=>have e:Vl.sc (.bl i)=.sc .non:=h';injection e with e;cases e
  |cons a b=>obtain⟨k,_,_,e,_⟩:=h';cases e
 | .nil,t,x,h,h'=>by
  have e:x=.sc .non:=h
  subst e
  cases t with
  |int j=>have e:Vl.sc .non=.sc (.int j):=h';injection e with e;cases e
  |bl b=>have e:Vl.sc .non=.sc (.bl b):=h';injection e with e;cases e
  |nil=>rfl
  |cons a b=>obtain⟨k,_,_,e,_⟩:=h';cases e
 | .cons a b,t,x,h,h'=>by
  obtain⟨k,x1,y1,e,hk,h1,h2⟩:=h
  subst e
  cases t with
  |int j=>have e:Vl.cell k=.sc (.int j):=h';cases e
  |bl b=>have e:Vl.cell k=.sc (.bl b):=h';cases e
  |nil=>have e:Vl.cell k=.sc .non:=h';cases e
  |cons c d=>
   obtain⟨k',x2,y2,e,hk',h1',h2'⟩:=h'
   injection e with e
   subst e
   rw[hk]at hk'
   injection hk' with z
   injection z with z1 z2
   subst z1 z2
   rw[vra_uniq h1 h1',vra_uniq h2 h2']
end
theorem YA{bs:List Bk}{most:Nat}{T T':Tm}(h:SM bs most T T')(ho:T'.out≠none):T'.frs=[]:=by
 obtain⟨fs,f,r,c,n,w,rfl,_,ha⟩:=h
 cases ha<;>first|rfl|exact absurd rfl ho
noncomputable def Lp(N:Nat)(G:PL.Pv->Prop)(p:PL.Pv):Prop:=(p=.nil\/∃h t,p=.cons h t)/\(PL.heads p).length<=N/\∀h∈PL.heads p,G h
noncomputable def Ip(p:PL.Pv):Prop:=(∃i,p=.int i)\/∃b,p=.bl b
noncomputable def KP(N:Nat):Kd->PL.Pv->Prop
 | .n,p=>Ip p
 | .t,p=>Ip p
 | .l,p=>Lp N Ip p
 | .L,p=>Lp N (Lp N Ip) p
 |_,_=>False
theorem aSZ{hs:Hs}{N:Nat}{s:Sum Kd (List Kd)}{v:Tv}(h:Ty hs N s v):(s=.inl .n\/s=.inl .t->∃p,v=PU p/\Ip p/\PL.size p<=1)/\(s=.inl .l->∃p,v=PU p/\Lp N Ip p/\(PL.heads p).length=len v/\PL.size p<=len v+1)/\(s=.inl .L->∃p,v=PU p/\Lp N (Lp N Ip) p/\(PL.heads p).length=len v/\PL.size p<=len v*(N+1)+1):=by
 induction h with
 | @n i hb=>exact⟨λ_=>⟨.int i,rfl,.inl ⟨i,rfl⟩,le_refl _⟩,(λz=>nomatch z),(λz=>nomatch z)⟩
 | @t b=>exact⟨λ_=>⟨.bl b,rfl,.inr ⟨b,rfl⟩,le_refl _⟩,(λz=>nomatch z),(λz=>nomatch z)⟩
 |nil hp=>cases hp<;>exact⟨(λz=>by rcases z with z|z<;>cases z),λ_=>⟨.nil,rfl,⟨.inl rfl,zero_le _,λh hh=>(nomatch hh)⟩,rfl,by show 1<=_;omega⟩,λ_=>⟨.nil,rfl,⟨.inl rfl,zero_le _,λh hh=>(nomatch hh)⟩,rfl,by show 1<=_;omega⟩⟩
 | @pair p k h r hp h1 h2 hl ih1 ih2=>
  cases hp with
  |l=>
   obtain⟨a,ea,ia,sa⟩:=ih1.1 (.inl rfl)
   obtain⟨b,eb,ib,lb,sb⟩:=ih2.2.1 rfl
   refine⟨(λz=>by rcases z with z|z<;>cases z),λ_=>⟨.cons a b,by rw[ea,eb];rfl,⟨.inr ⟨a,b,rfl⟩, ?_,λx hx=> ?_⟩, ?_, ?_⟩,(λz=>nomatch z)⟩
   ·show(PL.heads b).length+1<=N;omega
   ·rcases cZ hx with hx|hx
    ·rw[hx];exact ia
    ·exact ib.2.2 x hx
   ·show(PL.heads b).length+1=len r+1;rw[lb]
   ·show PL.size a+PL.size b<=len r+1+1
    omega
  |L=>
   obtain⟨a,ea,ia,la,sa⟩:=ih1.2.1 rfl
   obtain⟨b,eb,ib,lb,sb⟩:=ih2.2.2 rfl
   refine⟨(λz=>by rcases z with z|z<;>cases z),(λz=>nomatch z),λ_=>⟨.cons a b,by rw[ea,eb];rfl,⟨.inr ⟨a,b,rfl⟩, ?_,λx hx=> ?_⟩, ?_, ?_⟩⟩
   ·show(PL.heads b).length+1<=N;omega
   ·rcases cZ hx with hx|hx
    ·rw[hx];exact ia
    ·exact ib.2.2 x hx
   ·show(PL.heads b).length+1=len r+1;rw[lb]
   ·have hla:=len_le h1
    show PL.size a+PL.size b<=(len r+1)*(N+1)+1
    rw[Nat.add_mul,Nat.one_mul]
    omega
  |F=>exact⟨(λz=>by rcases z with z|z<;>cases z),(λz=>nomatch z),(λz=>nomatch z)⟩
 |fn hb _ _=>exact⟨(λz=>by rcases z with z|z<;>cases z),(λz=>nomatch z),(λz=>nomatch z)⟩
 |none=>exact⟨(λz=>by rcases z with z|z<;>cases z),(λz=>nomatch z),(λz=>nomatch z)⟩
 |some _ _ _ _=>exact⟨(λz=>by rcases z with z|z<;>cases z),(λz=>nomatch z),(λz=>nomatch z)⟩
theorem cQZ{hs:Hs}{N:Nat}{k:Kd}{v:Tv}(h:T1 hs N k v)(hk:k=.n\/k=.t\/k=.l\/k=.L)(hN:N<=200):∃p,v=PU p/\KP N k p/\PL.size p<=400000:=by
 have hl:=len_le h
 obtain⟨h1,h2,h3⟩:=aSZ h
 rcases hk with rfl|rfl|rfl|rfl
 ·obtain⟨p,e,i,s⟩:=h1 (.inl rfl)
  exact⟨p,e,i,by omega⟩
 ·obtain⟨p,e,i,s⟩:=h1 (.inr rfl)
  exact⟨p,e,i,by omega⟩
 ·obtain⟨p,e,i,_,s⟩:=h2 rfl
  exact⟨p,e,i,by omega⟩
 ·obtain⟨p,e,i,_,s⟩:=h3 rfl
  have:len v*(N+1)<=200*201:=Nat.mul_le_mul (by omega) (by omega)
  exact⟨p,e,i,by omega⟩
theorem SV{H:Hp}{ok ok':Addr->Prop}{p:PL.Pv}{r r':V}(h:Ip p)(h1:(PL.R ok H p).1 r)(h2:(PL.R ok' H p).1 r'):∀n,DqS H n r r':=by
 rcases h with⟨i,rfl⟩|⟨b,rfl⟩
 ·have e1:r=.int i:=h1
  have e2:r'=.int i:=h2
  subst e1 e2
  exact dq_sc rfl
 ·have e1:r=.bl b:=h1
  have e2:r'=.bl b:=h2
  subst e1 e2
  exact dq_sc rfl
theorem TB{H:Hp}{ok:Addr->Prop}{N:Nat}{G:PL.Pv->Prop}{p:PL.Pv}{r:V}(h:Lp N G p)(h1:(PL.R ok H p).1 r):∃a rs,r=.ref a/\H a=some (.lst rs)/\All2 (λt r=>(PL.R ok H t).1 r) (PL.heads p) rs:=by
 rcases h.1 with rfl|⟨x,t,rfl⟩
 ·obtain⟨a,e,ha,_⟩:=h1
  exact⟨a,[],e,ha,.nil⟩
 ·obtain⟨a,r1,rs,e,ha,_,h2,h3⟩:=h1
  exact⟨a,r1::rs,e,ha,.cons h2 (PL.R.items h3)⟩
theorem SK{H:Hp}{ok ok':Addr->Prop}{n:Nat}{G:PL.Pv->Prop}(hG:∀p,G p->∀r r',(PL.R ok H p).1 r->(PL.R ok' H p).1 r'->DqS H n r r'):∀ {ps:List PL.Pv} {rs rs':List V},(∀p∈ps,G p)->All2 (λt r=>(PL.R ok H t).1 r) ps rs->All2 (λt r=>(PL.R ok' H t).1 r) ps rs'->All2 (DqS H n) rs rs'
 | [],_,_,_,h1,h2=>by cases h1;cases h2;exact .nil
 |p::ps,_,_,hp,h1,h2=>by
  cases h1 with
  |cons a1 a2=>
   cases h2 with
   |cons b1 b2=>exact .cons (hG p (hp p (mem_cons_self ..)) _ _ a1 b1) (SK hG (λq hq=>hp q (mem_cons_of_mem _ hq)) a2 b2)
theorem WD{H:Hp}{ok ok':Addr->Prop}{N n:Nat}{G:PL.Pv->Prop}(hN:N<=1000)(hG:∀p,G p->∀r r',(PL.R ok H p).1 r->(PL.R ok' H p).1 r'->DqS H n r r'){p:PL.Pv}{r r':V}(h:Lp N G p)(h1:(PL.R ok H p).1 r)(h2:(PL.R ok' H p).1 r'):DqS H (n+1) r r':=by
 obtain⟨a,rs,rfl,ha,hA⟩:=TB h h1
 obtain⟨b,rs',rfl,hb,hB⟩:=TB h h2
 exact dq_lst ha hb (by rw[<-hA.len];have:=h.2.1;omega) (SK hG h.2.2 hA hB)
theorem dq_kp{H:Hp}{ok ok':Addr->Prop}{N:Nat}(hN:N<=1000){k:Kd}{p:PL.Pv}{r r':V}(h:KP N k p)(h1:(PL.R ok H p).1 r)(h2:(PL.R ok' H p).1 r'):DqS H 2 r r':=by
 cases k with
 |n=>exact SV h h1 h2 2
 |t=>exact SV h h1 h2 2
 |l=>exact WD hN (λp hp r r' a b=>SV hp a b 1) h h1 h2
 |L=>exact WD hN (λp hp r r' a b=>WD hN (λq hq s s' c d=>SV hq c d 0) hp a b) h h1 h2
 |F=>exact h.elim
 |fn k=>exact h.elim
end PG
namespace LR
open PySem L2 CL SW MC MT
open K67 (DqS)
open BV hiding ifT ifF NoG top
theorem EU{H:Hp}:∀xs:List Int,All2 (VAt H) (xs.map λi=>Vl.sc (.int i)) (xs.map V.int)
 | []=> .nil
 |_::xs=> .cons ⟨rfl,rfl⟩ (EU xs)
theorem TU{cs:List Cl}:∀xs:List Int,All2 (V1 cs) (xs.map λi=>Tv.sc (.int i)) (xs.map λi=>Vl.sc (.int i))
 | []=> .nil
 |_::xs=> .cons rfl (TU xs)
theorem AX{H:Hp}:∀ {n:Nat} {x y:V},DqS H n x y->DqS H (n+1) x y
 |0,_,_,h=> .inl h
 |n+1,_,_,h=>by
  rcases h with h|⟨a,b,xs,ys,e1,e2,h,hl,hA⟩
  ·exact .inl h
  ·exact .inr ⟨a,b,xs,ys,e1,e2,h,hl,hA.imp λ_ _ z=>AX z⟩
theorem CU{α:Type}{R:α->V->Prop}{H:Hp}{n:Nat}(h:∀x v v',R x v->R x v'->DqS H n v v'):∀ {xs:List α} {vs vs':List V},All2 R xs vs->All2 R xs vs'->All2 (DqS H n) vs vs'
 | [],_,_,h1,h2=>by cases h1;cases h2;exact .nil
 |x::xs,_,_,h1,h2=>by
  cases h1 with
  |cons a1 a2=>
   cases h2 with
   |cons b1 b2=>exact .cons (h x _ _ a1 b1) (CU h a2 b2)
theorem RH{H:Hp}:∀ {x:Vl} {v v':V},VAt H x v->VAt H x v'->DqS H 1 v v'
 | .sc x,v,v',⟨e,h⟩,⟨e',_⟩=>by subst e e';exact PG.dq_sc (WQ h) 1
 | .cell k,v,v',⟨p,e,hp⟩,⟨p',e',hp'⟩=>by
  subst e e'
  exact PG.dq_tup hp hp' (by show 2<=1000;omega) (.cons (PG.dq_sc rfl _) (.cons (PG.dq_sc rfl _) .nil))
theorem KK{H:Hp}{xs:List Vl}{vs vs':List V}(h:All2 (VAt H) xs vs)(h':All2 (VAt H) xs vs'):All2 (DqS H 1) vs vs':=CU (R:=VAt H) (λ_ _ _ a b=>RH a b) h h'
theorem bwZ{H:Hp}{f:Fr}{u u':V}(hf:f.sl.length<=100/\f.st.length<=100)(h:FAt H f u)(h':FAt H f u'):DqS H 3 u u':=by
 obtain⟨p,sl,st,rfl,⟨q,e,h1,h2,h3⟩,h4,h5⟩:=h
 obtain⟨p',sl',st',rfl,⟨q',e',h1',h2',h3'⟩,h4',h5'⟩:=h'
 have l4:=h4.len
 have l5:=h5.len
 exact PG.dq_tup h1 h1' (by show 4<=1000;omega) (.cons (PG.dq_sc rfl _) (.cons (PG.dq_sc rfl _) (.cons (PG.dq_tup h2 h2' (by omega) (KK h4 h4')) (.cons (PG.dq_tup h3 h3' (by omega) (KK h5 h5')) .nil))))
theorem cWZ{H:Hp}:∀ {c:Cl} {u u':V},ClAt H c u->ClAt H c u'->DqS H 3 u u'
 | .pair a b,_,_,⟨p,x,y,e,h1,h2,h3⟩,⟨p',x',y',e',h1',h2',h3'⟩=>by
  subst e e'
  exact PG.dq_tup h1 h1' (by show 3<=1000;omega) (.cons (PG.dq_sc rfl _) (.cons (AX (RH h2 h2')) (.cons (AX (RH h3 h3')) .nil)))
 | .fn n vs,_,_,⟨p,q,xs,e,h1,h2,h3,h4⟩,⟨p',q',xs',e',h1',h2',h3',h4'⟩=>by
  subst e e'
  have l3:=h3.len
  exact PG.dq_tup h1 h1' (by show 3<=1000;omega) (.cons (PG.dq_sc rfl _) (.cons (PG.dq_sc rfl _) (.cons (PG.dq_tup h2 h2' (by omega) (KK h3 h3')) .nil)))
theorem GB{H:Hp}:∀ {frs:List Fr} {fs fs':List V},(∀f∈frs,f.sl.length<=100/\f.st.length<=100)->All2 (FAt H) frs fs->All2 (FAt H) frs fs'->All2 (DqS H 3) fs fs'
 | [],_,_,_,h1,h2=>by cases h1;cases h2;exact .nil
 |f::frs,_,_,hf,h1,h2=>by
  cases h1 with
  |cons a1 a2=>
   cases h2 with
   |cons b1 b2=>exact .cons (bwZ (hf f (mem_cons_self ..)) a1 b1) (GB (λg hg=>hf g (mem_cons_of_mem _ hg)) a2 b2)
noncomputable def AnsV(H0 H:Hp)(S:Ms)(u:V):Prop:=match S.out with
 |none=>u=.non
 |some (.value x)=>∃t p r,VRa S.cs t x/\u=.ref p/\H p=some (.tup [.str "value",r])/\(PL.R (λa=>H0 a=none) H t).1 r
 |some o=>OAt H (some o) u
noncomputable def FD(S:Ms):Prop:=∀x,S.out=some (.value x)->∃t,VRa S.cs t x/\PL.size t<=400000/\∃k,PG.KP 200 k t
theorem QD{H0 H1 H:Hp}{S:Ms}{u u':V}(hv:FD S)(h:AnsV H0 H S u)(h':AnsV H1 H S u'):DqS H 4 u u':=by
 unfold AnsV at h h'
 cases e:S.out with
 |none=>
  rw[e]at h h'
  simp only at h h'
  subst h h'
  exact PG.dq_sc rfl _
 |some o=>
  rw[e]at h h'
  cases o with
  |value x=>
   obtain⟨t0,ht0,_,k,hk⟩:=hv x e
   obtain⟨t,p,r,ht,rfl,hp,hr⟩:=h
   obtain⟨t',p',r',ht',rfl,hp',hr'⟩:=h'
   have e1:=PG.vra_uniq ht0 ht
   have e2:=PG.vra_uniq ht0 ht'
   subst e1 e2
   exact PG.dq_tup hp hp' (by show 2<=1000;omega) (.cons (PG.dq_sc rfl _) (.cons (AX (PG.dq_kp (by decide) hk hr hr')) .nil))
  |refused w=>
   obtain⟨p,rfl,hp⟩:=h
   obtain⟨p',rfl,hp'⟩:=h'
   exact PG.dq_tup hp hp' (by show 2<=1000;omega) (.cons (PG.dq_sc rfl _) (.cons (PG.dq_sc rfl _) .nil))
  |dry=>
   obtain⟨p,rfl,hp⟩:=h
   obtain⟨p',rfl,hp'⟩:=h'
   exact PG.dq_tup hp hp' (by show 1<=1000;omega) (.cons (PG.dq_sc rfl _) .nil)
  |deep=>
   obtain⟨p,rfl,hp⟩:=h
   obtain⟨p',rfl,hp'⟩:=h'
   exact PG.dq_tup hp hp' (by show 1<=1000;omega) (.cons (PG.dq_sc rfl _) .nil)
end LR
namespace LR
open PySem L2 CL SW MC MT
open BV hiding ifT ifF NoG top
seal PE PT PW PA PS PSs PTs PI L2.PG PGs PO
noncomputable abbrev s_law_heap:Stmt:=CL.top 46
noncomputable abbrev QC:List Str:=["_law_cells","_law_heap_here","_law_cell"]
theorem sc_law_heap:FnScope QC ["_law_cells"] (A9 s_law_heap):=fS
section
variable{P:Program}{w:World}{K:FZ}{mg:Str->Option Value}{base:Heap}{C f fi:Addr}{fd di:FuncData}{mf:Str->Addr}{md:Str->FuncData}
inductive spHeapW(C:Addr)(vs:List V)(H:Hp)(Q:VK):Prop
 |mk:∀(lc:Addr) (us:List V),(vs=[.ref lc])->(H lc=some (.lst us))->(us.length<=500)->(∀o L H',Same H H'->CAt C H' o L us->H o=none->H L=none->Q (.ref o) H')->spHeapW C vs H Q
noncomputable def YM(C:Addr):Sp:=λvs H Q _=>spHeapW C vs H Q
theorem ok_law_heap(F:Fun K "_law_heap" "_law_heap" s_law_heap f fd)(RC:RCls K C mf md)(M_Cells:Mk K C fi)(m_Cells:mg "Cells"=some (.ref C))
  (G___init__:FnOk P w K mg base CX0 1 fi di J1 (QQ C))(b___init__:Binds K di J1 [])
  (RP:FnOk P w K mg base CX0 1 (mf "put") (md "put") WP (YG C)):
  FnOk P w K mg base CX0 3 f fd ["_law_cells"] (YM C):=by
 refine F.ok sc_law_heap (λvs H Q E h=> ?_) (λcdv A outer s H vs Q E hr h=> ?_)
 ·obtain⟨lc,us,rfl,_⟩:=h
  rfl
 obtain⟨lc,us,rfl,hlc,hul,q⟩:=h
 have nd:=sc_law_heap.nd
 have hu:=hr.units0
 refine⟨_,(A6 (C5 (i:=1) nd rfl (Or.inl rfl) (MQ M_Cells G___init__ (hr.mono (by omega)) rfl m_Cells b___init__ .nil B8))
   (A6 (D8 (U0 PassesOwn.never rfl (Z4 (K:=K) (pv 0)) (G4 (i:=2) nd rfl (Or.inl rfl)) (A7 (C0 (O1 (pv 1) RC.cl RC.m_put RP (hr.mono (by omega)) RC.b_put .nil B8 (A0 (pv 2) A4))))))
   (A7 (B5 (pv 1))))), ?_⟩
 refine λo d ho hd hn=>⟨o,d,rfl,A2,λL hL=>⟨rfl, ?_⟩⟩
 obtain⟨s1,hC,hL0⟩:=SL (C:=C) ho hd hn hL
 show M0 _ _ _ [some (.ref lc),some (.ref o),none] _
 generalize upd (upd (upd (upd H d (.own o)) o (.ins C d [])) L (.lst [])) o (.ins C d [("in_order",.ref L)])=H1 at s1 hC⊢
 refine⟨fun σ H'=>∃x,σ=[some (.ref lc),some (.ref o),x]/\Same H H'/\CAt C H' o L us, ?_, ?_⟩
 ·refine⟨_,rfl,lc,rfl,⟨_,SqL.of (s1 _ _ hlc)⟩,BG (xs:=us) (λi σ H'=>∃x,σ=[some (.ref lc),some (.ref o),x]/\Same H H'/\CAt C H' o L (us.take i)) ⟨none,rfl,s1,hC⟩ ?_ ?_ ?_⟩
  ·rintro i σ H' _ ⟨x,rfl,s',_⟩
   exact SqL.of (s' _ _ hlc)
  ·rintro i x σ H' hx ⟨y,rfl,s',hC'⟩
   obtain⟨dx,ho',hL'⟩:=id hC'
   refine⟨_,rfl,o,dx,_,rfl,ho',rfl,_,rfl,o,L,_,x,rfl,hC', ?_,λp H2 hp hB hC2 _=>⟨_,rfl,λb ob e=>hB _ _ (s' _ _ e) λz=> ?_, ?_⟩⟩
   ·rw[length_take];omega
   ·rw[z,hL0]at e;cases e
   ·have e:us.take i++ [x]=us.take (i+1):=by rw[take_succ,hx];rfl
    rw[<-e];exact hC2
  ·rintro σ H' ⟨x,rfl,s',hC'⟩
   rw[take_length]at hC'
   exact⟨x,rfl,s',hC'⟩
 rintro _ H2 ⟨x,rfl,s',hC'⟩
 exact⟨_,rfl,q o L H2 s' hC' ho hL0⟩
end
noncomputable abbrev s_law_back:Stmt:=CL.top 47
noncomputable abbrev RI:List Str:=["_law_frames","_law_heap_here","_law_value","_law_below"]
theorem sc_law_back:FnScope RI cyZ (A9 s_law_back):=fS
theorem RK(xs:List V)(u v:V):G9 (xs++ [u,v]) none (some (-2))=xs:=by
 have h:HT.sIx (xs++ [u,v]).length (xs++ [u,v]).length (some (-2))=xs.length:=by
  show(if(-2:Int)<0 then((-2:Int)+((xs++ [u,v]).length:Nat)).toNat else min (-2:Int).toNat (xs++ [u,v]).length)=xs.length
  rw[if_pos (by decide)]
  simp
  omega
 unfold G9
 rw[h,HT.sIx_none]
 simp
theorem TC(xs:List V)(u v:V):atI (xs++ [u,v]) (-2)=some u:=by
 unfold atI ixN
 rw[if_neg (by decide),if_pos (by simp;omega)]
 have e:(-2+(((xs++ [u,v]).length:Nat):Int)).toNat=xs.length:=by simp;omega
 show(xs++ [u,v])[(-2+(((xs++ [u,v]).length:Nat):Int)).toNat]? =some u
 rw[e]
 simp
theorem dXZ{K:FZ}{H:Hp}{Q:VK}{a b:Addr}{xs:List V}{v:V}(ha:H a=some (.tup xs))(hb:H b=some (.tup [v]))(hl:xs.length<=1000)(k:∀p H',Same H H'->H' p=some (.tup (xs++ [v]))->Q (.ref p) H'):
  rI0 (λi j=> .int (i+j)) (.ref a) (.ref b) H Q\/rCat (.ref a) (.ref b) H Q\/IB K (.ref a) (.ref b) H Q\/CI K (.ref a) (.ref b) H Q:=by
 by_cases e:xs=[]
 ·subst e
  exact .inr (.inr (.inr ⟨a,b,_,rfl,rfl,SqT.of ha,SqT.of hb,k b H (Same.refl _) hb⟩))
 ·exact .inr (.inr (.inl ⟨a,b,xs,[v],rfl,rfl,SqT.of ha,SqT.of hb,e,le_trans (Nat.add_le_add_right hl 1) (by decide),λz=>(nomatch z),λ_ p hp=>k p _ (A3 hp _) A2⟩))
section
variable{P:Program}{w:World}{K:FZ}{mg:Str->Option Value}{base:Heap}{C Pt f II:Addr}{fd IL:FuncData}
inductive spBackLW(C Pt:Addr)(vs:List V)(H:Hp)(Q:VK):Prop
 |mk:∀(lf o L:Addr) (us fs:List V) (cs:List Cl) (frs:List Fr) (f:Fr) (st:List Vl) (x:Vl),(vs=[.ref lf,.ref o])->(H lf=some (.lst fs))->(All2 (FAt H) (frs++ [f]) fs)->(CAt C H o L us)->(All2 (ClAt H) cs us)->(f.st=st++ [x])->(fs.length<=60)->(((∃t,frs=[]/\VRa cs t x/\PL.size t<=400000/\X9 H Pt PL.lamAt PL.lamQ/\∀tt lf' p r H',(∀b ob,H b=some ob->b≠Pt->H' b=some ob)->X9 H' Pt PL.lamAt PL.lamQ->H' tt=some (.tup [.ref lf',.ref p])->H' lf'=some (.lst [])->H lf'=none->H' p=some (.tup [.str "value",r])->(PL.R (λa=>H a=none) H' t).1 r->Q (.ref tt) H')\/(∃gs g,frs=gs++ [g]/\g.st.length<=100/\∀tt lf' fs' H',Same H H'->H' tt=some (.tup [.ref lf',.non])->H' lf'=some (.lst fs')->H lf'=none->All2 (FAt H') (gs++ [⟨g.k,g.at_,g.sl,g.st++ [x]⟩]) fs'->Q (.ref tt) H')))->spBackLW C Pt vs H Q
noncomputable def TR(C Pt:Addr):Sp:=λvs H Q _=>spBackLW C Pt vs H Q
theorem ok_law_back(F:Fun K "_law_back" "_law_back" s_law_back f fd)(B:NoG mg)
  (Q0:Cn P w K mg base CX0 5 "plain" KJ (PL.spPlain C Pt)):
  FnOk P w K mg base CX0 6 f fd cyZ (TR C Pt):=by
 obtain⟨II,IL,Q0,IP,JF,IW⟩:=Q0
 refine F.ok sc_law_back (λvs H Q E h=> ?_) (λcdv A outer s H vs Q E hr h=> ?_)
 ·obtain⟨lf,o,L,us,fs,cs,frs,f,st,x,rfl,_⟩:=h
  rfl
 obtain⟨lf,o,L,us,fs,cs,frs,f,st,x,rfl,hlf,hF,hC,hU,hst,hfl,hor⟩:=h
 have nd:=sc_law_back.nd
 have hu:=hr.units0
 refine⟨_,(A6 (C5 (i:=2) nd rfl (Or.inl rfl) (ixE K w (ixE K w (ixE K w (pv 0) (J0 E4 A5)) A5) (J0 E4 A5)))
   (A6 (C8 (B2 (kEq (K:=K) hu) (B9 (J9 (K:=K)) rfl B.len_ E8 (A0 (pv 0) A4)) A5 rfl) (A7 (B5 (B7 (A0 (D4 A4) (A0 (B7 (A0 A8 (A0 (B1 Q0 (hr.mono (by omega)) rfl IW JF IP .nil B8 (A0 (pv 1) (A0 (pv 2) A4))) A4))) A4))))) C1)
   (A6 (C5 (i:=3) nd rfl (Or.inl rfl) (ixE K w (pv 0) (J0 E4 A5)))
   (A7 (B5 (B7 (A0 (B4 (M2 (K:=K)) (G5 (W7 (K:=K)) (pv 0) K4 (J3 (J0 E4 A5))) (D4 (A0 (B7 (A0 (ixE K w (pv 3) A5) (A0 (ixE K w (pv 3) A5) (A0 (ixE K w (pv 3) A5) (A0 (B4 (M2 (K:=K)) (ixE K w (pv 3) A5) (B7 (A0 (pv 2) A4))) A4))))) A4))) (A0 N7 A4)))))))), ?_⟩
 obtain⟨gs,u,rfl,hG,p,sl,sv,rfl,hp,hsl,hsv⟩:=C4 hF
 rw[hst]at hsv
 obtain⟨sv0,v,rfl,hsv0,hv⟩:=C4 hsv
 obtain⟨q1,e1,hp1,hp2,hp3⟩:=id hp
 have lG:=hG.len
 refine⟨_,rfl,_,rfl,(ixL hlf (G0 _ _) (ixT hp1 rfl ⟨_,rfl,(ixT hp3 (G0 _ _) ?_)⟩))⟩
 show M0 _ _ _ [some (.ref lf),some (.ref o),some v,none] H
 rcases hor with⟨t,rfl,hx,hsz,hT,fin⟩|⟨gs',g,rfl,hgl,fin⟩
 ·cases hG
  refine⟨_,rfl,_,_,rfl,.inl ⟨_,SqL.of hlf,rfl⟩,.inl ⟨rfl,_,rfl,ifT rfl ?_⟩⟩
  refine⟨zero_le _,λle hle=> ?_⟩
  have s1:=A3 hle (.lst [])
  have hT1:=PG.tb_same hT s1
  refine⟨_,rfl,_,rfl,o,L,us,t,v,rfl,hC.same s1,VRa.vr (hU.imp λ_ _ z=>ClAt.mo (B6 s1) z) hx (hv.mo (B6 s1)),hsz,hT1,λr H1 k1 hT2 hR=>⟨PG.z2,λp2 hp2=>⟨PG.z2,λtt htt=> ?_⟩⟩⟩
  have s2:=A3 hp2 (.tup [.str "value",r])
  have s3:=A3 htt (.tup [.ref le,.ref p2])
  have hle1:=k1 _ _ (A2 (H:=H) (a:=le) (o:=.lst [])) (PG.tb_lst hT1 A2)
  exact fin tt le p2 r _ (λb ob e n=>s3 _ _ (s2 _ _ (k1 _ _ (s1 _ _ e) n))) (PG.tb_same (PG.tb_same hT2 s2) s3) A2 (s3 _ _ (s2 _ _ hle1)) hle (s3 _ _ A2) ((PL.R.mono λa xs h e=>⟨s3 _ _ (s2 _ _ e),s1.free h⟩).1 hR)
 ·obtain⟨gv,u2,rfl,hG2,p2,sl2,st2,rfl,hq,hsl2,hst2⟩:=C4 hG
  obtain⟨q2,e2,hq1,hq2,hq3⟩:=id hq
  have lg2:=hst2.len
  rw[List.append_assoc]at hlf
  refine⟨_,rfl,_,_,rfl,.inl ⟨_,SqL.of hlf,rfl⟩,.inl ⟨rfl,_,rfl,ifF (λz=> ?_) ?_⟩⟩
  ·have:=of_decide_eq_true z
   simp at this
   omega
  refine⟨_,rfl,_,rfl,(ixL hlf (TC _ _ _) ?_)⟩
  show M0 _ _ _ [some (.ref lf),some (.ref o),some v,some (.ref p2)] H
  refine⟨_,rfl,_,rfl,_,rfl,.inl (.inl ⟨lf,_,rfl,SqL.of hlf,λl1 hl1=> ?_⟩)⟩
  have ec:G9 (gv++([.ref p2]++ [.ref p])) none (some (-2))=gv:=RK gv _ _
  rw[ec]
  have s1:=A3 hl1 (.lst gv)
  refine⟨_,rfl,(ixT (s1 _ _ hq1) rfl ⟨_,rfl,(ixT (s1 _ _ hq1) rfl ⟨_,rfl,(ixT (s1 _ _ hq1) rfl ⟨_,rfl,(ixT (s1 _ _ hq1) rfl ⟨_,rfl,PG.z1,λt1 ht1=> ?_⟩)⟩)⟩)⟩)⟩
  have s2:=A3 ht1 (.tup [v])
  refine dXZ (s2 _ _ (s1 _ _ hq3)) A2 (by omega) λe3 H2 s3 he3=>⟨EX,λt2 ht2=>⟨PG.z1,λl2 hl2=> ?_⟩⟩
  have s4:=A3 ht2 (.tup [.int (g.k:Nat),.int (g.at_:Nat),.ref q2,.ref e3])
  have s5:=A3 hl2 (.lst [.ref t2])
  have hl1':=s5 _ _ (s4 _ _ (s3 _ _ (s2 _ _ (A2 (H:=H) (a:=l1) (o:=.lst gv)))))
  refine .inr (.inl ⟨l1,l2,_,_,rfl,rfl,hl1',A2,le_of_lt (PG.big_ _ ?_),λl3 hl3=>⟨PG.z2,λtt htt=> ?_⟩⟩)
  ·simp at hfl⊢
   omega
  have s6:=A3 hl3 (.lst (gv++ [.ref t2]))
  have s7:=A3 htt (.tup [.ref l3,.non])
  have sH:Same H _:=s1.trans (s2.trans (s3.trans (s4.trans (s5.trans (s6.trans s7)))))
  have s47:=s4.trans (s5.trans (s6.trans s7))
  have m:=B6 sH
  refine fin tt l3 _ _ sH A2 (s7 _ _ A2) ((s1.trans (s2.trans (s3.trans (s4.trans s5)))).free hl3) ((hG2.imp λ_ _ z=>FAt.mo m z).app (.cons ⟨t2,sl2,st2++ [v],rfl,⟨q2,e3,(s5.trans (s6.trans s7)) _ _ A2,sH _ _ hq2,s47 _ _ he3⟩,hsl2.imp λ_ _ z=>VAt.mo m z,(hst2.imp λ_ _ z=>VAt.mo m z).app (.cons (hv.mo m) .nil)⟩ .nil))
end
noncomputable abbrev s_law_due:Stmt:=CL.top 48
noncomputable abbrev VF:List Str:=["_law_blocks","_law_frames","_law_heap_here","_law_counted","_law_most","_law_row","_law_found"]
theorem sc_law_due:FnScope VF q1L (A9 s_law_due):=fS
noncomputable def EoS(cs:List Cl)(f:Fr):Eo2->Fr->List Cl->Prop
 | .fr d sl st,fr,cs'=>fr=⟨f.k,f.at_+d,sl,st⟩/\cs'=cs
 | .new cl st,fr,cs'=>fr=⟨f.k,f.at_+1,f.sl,st++ [.cell cs.length]⟩/\cs'=cs++ [cl]
 | .rf _,_,_=>False
theorem aGZ{C:Addr}{H:Hp}{Q:VK}{o L:Addr}{us sl:List V}{cs:List Cl}{f:Fr}{eo:Eo2}{eo':Eo}(hC:CAt C H o L us)(hU:All2 (ClAt H) cs us)(hsl:All2 (VAt H) f.sl sl)(hR:EoR H eo eo')
  (h1:∀p q H' us' fr cs',Bt L H H'->H' p=some (.tup [.str "frame",.ref q])->FAt H' fr (.ref q)->CAt C H' o L us'->All2 (ClAt H') cs' us'->EoS cs f eo fr cs'->Q (.ref p) H')
  (h2:∀p H' w,Same H H'->eo=.rf w->H' p=some (.tup [.str "refused",.str w])->Q (.ref p) H'):bgZ C H Q o L us (f.k:Nat) (f.at_:Nat) sl eo':=by
 have hL:H L=some (.lst us):=let⟨_,_,h⟩:=hC;h
 have lcs:=hU.len
 have e1:((f.at_+1:Nat):Int)=(f.at_:Nat)+1:=by omega
 cases hR with
 | @fr d sl1 st1 sl2 st2 hs' ht'=>
  intro p q H' s' hp hq
  have m:=B6 s'
  have e:((f.at_+d:Nat):Int)=(f.at_:Nat)+(d:Nat):=by omega
  exact h1 p q H' us ⟨f.k,f.at_+d,sl1,st1⟩ cs (.of s') hp ⟨q,sl2,st2,rfl,by rw[e];exact hq,hs'.imp λ_ _ z=>VAt.mo m z,ht'.imp λ_ _ z=>VAt.mo m z⟩ (hC.same s') (hU.imp λ_ _ z=>ClAt.mo m z) ⟨rfl,rfl⟩
 | @rf w=>
  intro p H' s' hp
  exact h2 p H' w s' rfl hp
 | @pair x y st1 x' y' st2 hx hy ht'=>
  intro p q c cv H' b hC' hc hcv hp hq
  have m:=b.tups hL
  have n1:VAt H' (.cell cs.length) (.ref cv):=⟨cv,rfl,by rw[lcs];exact hcv⟩
  have c1:ClAt H' (.pair x y) (.ref c):=⟨c,x',y',rfl,hc,hx.mo m,hy.mo m⟩
  refine h1 p q H' _ ⟨f.k,f.at_+1,f.sl,st1++ [.cell cs.length]⟩ (cs++ [.pair x y]) b hp ⟨q,sl,st2++ [.ref cv],rfl,by rw[e1];exact hq,hsl.imp λ_ _ z=>VAt.mo m z,(ht'.imp λ_ _ z=>VAt.mo m z).app (.cons n1 .nil)⟩ hC' ((hU.imp λ_ _ z=>ClAt.mo m z).app (.cons c1 .nil)) ⟨rfl,rfl⟩
 | @fn b xs st1 xs' st2 hxs hx10 ht'=>
  intro p q c cv vt H' bt hC' hc hvt hcv hp hq
  have m:=bt.tups hL
  have n1:VAt H' (.cell cs.length) (.ref cv):=⟨cv,rfl,by rw[lcs];exact hcv⟩
  have c1:ClAt H' (.fn (b:Nat) xs) (.ref c):=⟨c,vt,xs',rfl,hc,hvt,hxs.imp λ_ _ z=>VAt.mo m z,hx10⟩
  refine h1 p q H' _ ⟨f.k,f.at_+1,f.sl,st1++ [.cell cs.length]⟩ (cs++ [.fn (b:Nat) xs]) bt hp ⟨q,sl,st2++ [.ref cv],rfl,by rw[e1];exact hq,hsl.imp λ_ _ z=>VAt.mo m z,(ht'.imp λ_ _ z=>VAt.mo m z).app (.cons n1 .nil)⟩ hC' ((hU.imp λ_ _ z=>ClAt.mo m z).app (.cons c1 .nil)) ⟨rfl,rfl⟩
theorem b4Z{H H':Hp}{Pt L:Addr}{us:List V}(hT:Tb H Pt)(b:Bt L H H')(hL:H L=some (.lst us)):Tb H' Pt:=by
 obtain⟨qs,e1,e2,e3⟩:=hT
 refine⟨qs,b _ _ e1 λz=>(by rw[z,hL]at e1;cases e1),e2, ?_⟩
 rcases e3 with e3|⟨c2,e3,e4⟩
 ·exact .inl e3
 ·exact .inr ⟨c2,e3,b _ _ e4 λz=>(by rw[z,hL]at e4;cases e4)⟩
theorem RG{H:Hp}{Pt:Addr}(hT:Tb H Pt){b C dx:Addr}{fs:List (Str×V)}(h:H b=some (.ins C dx fs)):b≠Pt:=λz=>by
 obtain⟨qs,e1,_⟩:=hT
 rw[z,e1]at h;cases h
theorem QH(xs:List V)(v:V):G9 (xs++ [v]) none (some (-1))=xs:=PG.cut_m xs v
theorem TL{K:FZ}{H:Hp}{Q:VK}{p p1 p2 l1:Addr}{gs:List V}(hp:H p=some (.tup [.ref p1,.ref p2]))(hl:H l1=some (.lst gs))(hg:gs.length<=100)(k:∀tt l3 H',Same H H'->H' tt=some (.tup [.ref l3,.non])->H' l3=some (.lst (gs++ [.ref p1,.ref p2]))->H l3=none->Q (.ref tt) H'):
  ∃(a:Addr) (xs:List V),[V.ref p]=[.ref a]/\(SqL K H a xs\/SqT K H a xs)/\∀r,H r=none->(rI0 (λi j=> .int (i+j)) (.ref l1) (.ref r) (upd H r (.lst xs)) (λx H2=>tTupW Q [x,.non] H2)\/rCat (.ref l1) (.ref r) (upd H r (.lst xs)) (λx H2=>tTupW Q [x,.non] H2)\/IB K (.ref l1) (.ref r) (upd H r (.lst xs)) (λx H2=>tTupW Q [x,.non] H2)\/CI K (.ref l1) (.ref r) (upd H r (.lst xs)) (λx H2=>tTupW Q [x,.non] H2)):=by
 refine⟨p,_,rfl,.inr (SqT.of hp),λr hr=> .inr (.inl ⟨l1,r,_,_,rfl,rfl,(A3 hr _) _ _ hl,A2,le_of_lt (PG.big_ _ (by show gs.length+2<=950;omega)),λl3 hl3=>⟨PG.z2,λtt htt=> ?_⟩⟩)⟩
 have t1:=A3 hr (.lst [.ref p1,.ref p2])
 have t2:=A3 hl3 (.lst (gs++ [.ref p1,.ref p2]))
 have t3:=A3 htt (.tup [.ref l3,.non])
 exact k tt l3 _ (t1.trans (t2.trans t3)) A2 (t3 _ _ A2) (t1.free hl3)
section
variable{P:Program}{w:World}{K:FZ}{mg:Str->Option Value}{base:Heap}{C Pt f OH AB EM:Addr}{fd OC AO EJ:FuncData}
inductive spDueLW(C Pt:Addr)(vs:List V)(H:Hp)(Q:VK):Prop
 |mk:∀(bl lf o L:Addr) (vb us fs:List V) (bs:List Bk) (most:Nat) (cs:List Cl) (frs:List Fr) (f:Fr) (r c:Nat) (row:Rw) (S':Ms),(vs=[.ref bl,.ref lf,.ref o,.int (c:Nat),.int (most:Nat)])->(H bl=some (.lst vb))->(All2 (BAt H) bs vb)->(H lf=some (.lst fs))->(All2 (FAt H) (frs++ [f]) fs)->(CAt C H o L us)->(All2 (ClAt H) cs us)->(DB bs f=some row)->(Act bs most cs frs f r c row S')->(c<=most)->(cs.length<=500)->(frs.length+1<=60)->((∀g∈frs++ [f],g.sl.length<=100/\g.st.length<=100))->(bl≠L)->(lf≠L)->(X9 H Pt PL.lamAt PL.lamQ)->(FD S')->(∀tt lf' fs' us' ans H',(∀b ob,H b=some ob->b≠Pt->b≠L->H' b=some ob)->X9 H' Pt PL.lamAt PL.lamQ->H' tt=some (.tup [.ref lf',ans])->H' lf'=some (.lst fs')->H lf'=none->All2 (FAt H') S'.frs fs'->CAt C H' o L us'->All2 (ClAt H') S'.cs us'->AnsV H H' S' ans->Q (.ref tt) H')->spDueLW C Pt vs H Q
noncomputable def ZG(C Pt:Addr):Sp:=λvs H Q _=>spDueLW C Pt vs H Q
theorem ok_law_due(F:Fun K "_law_due" "_law_due" s_law_due f fd)(B:NoG mg)
  (AH:Cn P w K mg base CX0 6 "_law_back" cyZ (TR C Pt))
  (O4:Cn P w K mg base CX0 4 "own_done" QN (XY C))
  (R6:Cn P w K mg base CX0 2 "called" aHZ (CL.spCal C)):
  FnOk P w K mg base CX0 7 f fd q1L (ZG C Pt):=by
 obtain⟨OH,OC,AH,OX,PB,NX⟩:=AH
 obtain⟨AB,AO,O4,AR,AD,AJ⟩:=O4
 obtain⟨EM,EJ,R6,EK,EL,EG⟩:=R6
 refine F.ok sc_law_due (λvs H Q E h=> ?_) (λcdv A outer s H vs Q E hr h=> ?_)
 ·obtain⟨bl,lf,o,L,vb,us,fs,bs,most,cs,frs,f,r,c,row,S',rfl,_⟩:=h
  rfl
 obtain⟨bl,lf,o,L,vb,us,fs,bs,most,cs,frs,f,r,c,row,S',rfl,hbl,hB,hlf,hF,hC,hU,hrow,hact,hcm,hcs,hfl,hsm,nbL,nlL,hT,hval,q⟩:=h
 have nd:=sc_law_due.nd
 have hu:=hr.units0
 refine⟨_,(A6 (C5 (i:=5) nd rfl (Or.inl rfl) (ixE K w (ixE K w (ixE K w (pv 0) (ixE K w (ixE K w (pv 1) (J0 E4 A5)) A5)) A5) (ixE K w (ixE K w (pv 1) (J0 E4 A5)) A5)))
   (A6 (C8 (B2 (kEq (K:=K) hu) (ixE K w (pv 5) A5) A8 rfl) (A7 (B5 (B1 AH (hr.mono (by omega)) rfl NX PB OX .nil B8 (A0 (pv 1) (A0 (pv 2) A4))))) C1)
   (A6 (C8 (B2 (btZ (K:=K)) (ixE K w (pv 5) A5) (B7 (A0 A8 (A0 A8 A4))) rfl) (A6 (C5 (i:=6) nd rfl (Or.inl rfl) (B1 O4 (hr.mono (by omega)) rfl AJ AD AR .nil B8 (A0 (pv 2) (A0 (ixE K w (pv 1) (J0 E4 A5)) (A0 (pv 5) A4)))))
   (A6 (C8 (B2 (kEq (K:=K) hu) (ixE K w (pv 6) A5) A8 rfl) (A7 (B5 (B7 (A0 (D4 A4) (A0 (pv 6) A4))))) C1)
   (A7 (B5 (B7 (A0 (B4 (M2 (K:=K)) (G5 (W7 (K:=K)) (pv 1) K4 (J3 (J0 E4 A5))) (D4 (A0 (ixE K w (pv 6) A5) A4))) (A0 N7 A4))))))) C1)
   (A6 (C8 (B2 (kEq (K:=K) hu) (pv 3) (pv 4) rfl) (A7 (B5 (B7 (A0 (D4 A4) (A0 (B7 (A0 A8 A4)) A4))))) C1)
   (A6 (C8 (B2 (kEq (K:=K) hu) (B9 (J9 (K:=K)) rfl B.len_ E8 (A0 (pv 1) A4)) A5 rfl) (A7 (B5 (B7 (A0 (D4 A4) (A0 (B7 (A0 A8 A4)) A4))))) C1)
   (A7 (B5 (B7 (A0 (B4 (M2 (K:=K)) (G5 (W7 (K:=K)) (pv 1) K4 (J3 (J0 E4 A5))) (K0 (X7 (K:=K)) rfl B.list_ N0 (A0 (B1 R6 (hr.mono (by omega)) rfl EG EL EK .nil B8 (A0 (pv 0) (A0 (pv 2) (A0 (ixE K w (pv 1) (J0 E4 A5)) (A0 (pv 5) A4))))) A4))) (A0 N7 A4)))))))))), ?_⟩
 have hLl:H L=some (.lst us):=let⟨_,_,h⟩:=hC;h
 obtain⟨gs,u,rfl,hG,p,sl,st,rfl,hFr,hsl,hst⟩:=C4 hF
 obtain⟨q0,e0,g1,g2,g3⟩:=id hFr
 have lG:=hG.len
 have lsl:=hsl.len
 have lst:=hst.len
 have lus:=hU.len
 have small:=hsm f (mem_append_right _ (mem_singleton.mpr rfl))
 obtain⟨bk,hbk,hrw⟩:∃bk,bs[f.k]? =some bk/\bk.rows[f.at_]? =some row:=by
  unfold DB at hrow
  obtain⟨bk,h1,h2⟩:=Option.bind_eq_some_iff.mp hrow
  exact⟨bk,h1,h2⟩
 obtain⟨u,hu1,tb,rs,ur,rfl,hb1,hb2,hb3,hb4⟩:=E3 hB hbk
 obtain⟨v,hv,rwa,rfl,hrwa⟩:=E3 hb3 hrw
 refine⟨_,rfl,_,rfl,_,rfl,(ixL hlf (G0 _ _) (ixT g1 rfl (ixL (v:=.ref tb) hbl (C9 hu1) (ixT hb1 rfl ⟨_,rfl,_,rfl,(ixL hlf (G0 _ _) (ixT g1 rfl (ixT (v:=.ref rwa) hb2 (C9 hv) ?_)))⟩))))⟩
 show M0 _ _ _ [some (.ref bl),some (.ref lf),some (.ref o),some (.int (c:Nat)),some (.int (most:Nat)),some (.ref rwa),none] H
 have over:∀ {H':Hp} {le tt:Addr} {ans:V},Same H H'->H' tt=some (.tup [.ref le,ans])->H' le=some (.lst [])->H le=none->S'.frs=[]->S'.cs=cs->AnsV H H' S' ans->Q (.ref tt) H':=λ{H' le tt ans} sa h1 h2 h0 h3 h4 h5=>
  q tt le [] us ans H' (λb ob e _ _=>sa _ _ e) (PG.tb_same hT sa) h1 h2 h0 (by rw[h3];exact .nil) (hC.same sa) (by rw[h4];exact hU.imp λ_ _ z=>ClAt.mo (B6 sa) z) h5
 cases row with
 |own rk=>
  obtain⟨hw1,hw2⟩:=FS rk
  have hE:∃eo,Er cs f.sl rk f.st eo/\(match eo with
   | .fr d sl st=>S'=⟨cs,frs++ [⟨f.k,f.at_+d,sl,st⟩],none,r+1,c⟩
   | .new cl st=>S'=⟨cs++ [cl],frs++ [⟨f.k,f.at_+1,f.sl,st++ [.cell cs.length]⟩],none,r+1,c⟩
   | .rf w=>S'=⟨cs,[],some (.refused w),r+1,c⟩):=by
   cases hact with
   |own h=>exact⟨_,h,rfl⟩
   |new h=>exact⟨_,h,rfl⟩
   |rf h=>exact⟨_,h,rfl⟩
   |dry h _=>rcases h with⟨_,_,h⟩|h<;>cases h
   |deep h _ _=>rcases h with⟨_,_,h⟩|h<;>cases h
  obtain⟨eo,hEr,hpost⟩:=hE
  obtain⟨eo',hEf,hR⟩:=XF hU hsl hEr hst
  refine⟨_,rfl,(ixT (v:=.str (T9 rk)) hrwa (HL rk) (.inl ⟨rfl,_,rfl,ifF (λz=>hw1 (V.str.inj (of_decide_eq_true z))) ?_⟩))⟩
  refine⟨_,rfl,(ixT (v:=.str (T9 rk)) hrwa (HL rk) ⟨PG.z2,λt1 ht1=> .inr ⟨t1,_,rfl,.inr (SqT.of A2),rfl,rfl,_,rfl,ifT (by rw[hw2];rfl) ?_⟩⟩)⟩
  have s1:=A3 ht1 (.tup [.str "call",.str "apply"])
  generalize upd H t1 (.tup [.str "call",.str "apply"])=H1 at s1⊢
  have m1:=B6 s1
  obtain⟨eo2,hEf1,hR1⟩:=XF (hU.imp λ_ _ z=>ClAt.mo m1 z) (hsl.imp λ_ _ z=>VAt.mo m1 z) hEr (hst.imp λ_ _ z=>VAt.mo m1 z)
  refine⟨_,rfl,_,rfl,_,rfl,(ixL (s1 _ _ hlf) (G0 _ _) ⟨_,rfl,o,L,us,p,_,_,sl,st,rwa,rk,eo2,rfl,hC.same s1,by omega,hFr.mono m1,by omega,by omega,s1 _ _ hrwa,hEf1,aGZ (hC.same s1) (hU.imp λ_ _ z=>ClAt.mo m1 z) (hsl.imp λ_ _ z=>VAt.mo m1 z) hR1 (λp1 q1 H2 us2 fr cs2 b2 hp1 hfr hC2 hU2 hes=> ?_) (λp1 H2 w0 s2 he hp1=> ?_)⟩)⟩
  ·have bt:Bt L H H2:=λb ob e n=>b2 _ _ (s1 _ _ e) n
   have m2:Mo H H2:=bt.tups hLl
   have hlf2:=bt _ _ hlf nlL
   refine⟨_,rfl,(ixT hp1 rfl (.inl ⟨rfl,_,rfl,ifF (by decide) ?_⟩))⟩
   refine⟨_,rfl,_,rfl,_,rfl,.inl (.inl ⟨lf,_,rfl,SqL.of hlf2,λl1 hl1=> ?_⟩)⟩
   rw[QH]
   have t1':=A3 hl1 (.lst gs)
   refine⟨_,rfl,(ixT (t1' _ _ hp1) rfl ⟨PG.z1,λl2 hl2=> ?_⟩)⟩
   have t2:=A3 hl2 (.lst [.ref q1])
   refine .inr (.inl ⟨l1,l2,_,_,rfl,rfl,t2 _ _ A2,A2,le_of_lt (PG.big_ _ (by show gs.length+1<=950;omega)),λl3 hl3=>⟨PG.z2,λtt htt=> ?_⟩⟩)
   have t3:=A3 hl3 (.lst (gs++ [.ref q1]))
   have t4:=A3 htt (.tup [.ref l3,.non])
   have ta:=t1'.trans (t2.trans (t3.trans t4))
   have mA:=B6 ta
   have hS:S'.cs=cs2/\S'.frs=frs++ [fr]/\S'.out=none:=by
    cases eo with
    |fr d sl st=>obtain⟨e1,e2⟩:=hes;subst e1 e2;rw[hpost];exact⟨rfl,rfl,rfl⟩
    |new cl st=>obtain⟨e1,e2⟩:=hes;subst e1 e2;rw[hpost];exact⟨rfl,rfl,rfl⟩
    |rf w=>exact hes.elim
   refine q tt l3 _ us2 .non _ (λb ob e _ n=>ta _ _ (bt _ _ e n)) (PG.tb_same ?_ ta) A2 (t4 _ _ A2) ?_ ?_ (hC2.same ta) ?_ ?_
   ·exact b4Z hT bt hLl
   ·have f2:=(t1'.trans t2).free hl3
    cases e:H l3 with
    |none=>rfl
    |some ob=>
     by_cases z:l3=L
     ·obtain⟨dx2,_,hL2⟩:=hC2
      rw[z,hL2]at f2;cases f2
     ·rw[bt _ _ e z]at f2;cases f2
   ·rw[hS.2.1]
    exact(hG.imp λ_ _ z=>FAt.mo mA (FAt.mo m2 z)).app (.cons (FAt.mo mA hfr) .nil)
   ·rw[hS.1]
    exact hU2.imp λ_ _ z=>ClAt.mo mA z
   ·unfold AnsV
    rw[hS.2.2]
  ·subst he
   refine⟨_,rfl,(ixT hp1 rfl (.inl ⟨rfl,_,rfl,ifT (by decide) ?_⟩))⟩
   refine⟨zero_le _,λle hle=>⟨_,rfl,PG.z2,λtt htt=> ?_⟩⟩
   have t1':=A3 hle (.lst [])
   have t2:=A3 htt (.tup [.ref le,.ref p1])
   have ta:=t1'.trans t2
   refine over (s1.trans (s2.trans ta)) A2 (t2 _ _ A2) ((s1.trans s2).free hle) (by rw[hpost]) (by rw[hpost]) ?_
   unfold AnsV
   rw[hpost]
   exact⟨p1,rfl,ta _ _ hp1⟩
 |back=>
  refine⟨_,rfl,(ixT hrwa rfl (.inl ⟨rfl,_,rfl,ifT rfl ?_⟩))⟩
  refine⟨_,rfl,_,rfl, ?_⟩
  cases hact with
  | @last v0 st0 hfs h=>
   subst hfs
   cases hG
   obtain⟨t,ht,hsz,_⟩:=hval v0 rfl
   refine⟨lf,o,L,us,_,cs,[],f,st0,v0,rfl,hlf,hF,hC,hU,h,by simp,.inl ⟨t,rfl,ht,hsz,hT,λtt lf' p' r' H' k' hT' h1 h2 h0 h3 h4=> ?_⟩⟩
   have m:Mo H H':=λb ys e=>k' _ _ e (PG.tb_tup hT e)
   have hC':CAt C H' o L us:=by
    obtain⟨dx,ho,hl⟩:=hC
    exact⟨dx,k' _ _ ho (RG hT ho),k' _ _ hl (PG.tb_lst hT hl)⟩
   exact q tt lf' [] us _ H' (λb ob e n _=>k' _ _ e n) hT' h1 h2 h0 .nil hC' (hU.imp λ_ _ z=>ClAt.mo m z) ⟨t,p',r',ht,rfl,h3,h4⟩
  | @back gs0 g v0 st0 hfs h=>
   subst hfs
   refine⟨lf,o,L,us,_,cs,_,f,st0,v0,rfl,hlf,hF,hC,hU,h, ?_,.inr ⟨gs0,g,rfl,(hsm g (by simp)).2,λtt lf' fs' H' s' h1 h2 h0 h3=> ?_⟩⟩
   ·rw[length_append,<-lG];exact hfl
   ·exact q tt lf' fs' us _ H' (λb ob e _ _=>s' _ _ e) (PG.tb_same hT s') h1 h2 h0 h3 (hC.same s') (hU.imp λ_ _ z=>ClAt.mo (B6 s') z) rfl
  |dry h _=>rcases h with⟨_,_,h⟩|h<;>cases h
  |deep h _ _=>rcases h with⟨_,_,h⟩|h<;>cases h
 |call b m=>
  refine⟨_,rfl,(ixT hrwa rfl (.inl ⟨rfl,_,rfl,ifF (by decide) ?_⟩))⟩
  refine⟨_,rfl,(ixT hrwa rfl ⟨PG.z2,λt1 ht1=> .inr ⟨t1,_,rfl,.inr (SqT.of A2),rfl,rfl,_,rfl,ifF (by decide) ?_⟩⟩)⟩
  have s1:=A3 ht1 (.tup [.str "call",.str "apply"])
  generalize upd H t1 (.tup [.str "call",.str "apply"])=H1 at s1⊢
  have m1:=B6 s1
  refine⟨_,rfl,_,rfl,.inl ⟨rfl,_,rfl, ?_⟩⟩
  cases hact with
  |dry _ hmc=>
   refine ifT (decide_eq_true (congrArg V.int (by omega))) ⟨zero_le _,λle hle=>⟨PG.z1,λpd hpd=>⟨PG.z2,λtt htt=> ?_⟩⟩⟩
   have t1':=A3 hle (.lst [])
   have t2:=A3 hpd (.tup [.str "dry"])
   have t3:=A3 htt (.tup [.ref le,.ref pd])
   exact over (s1.trans (t1'.trans (t2.trans t3))) A2 (t3 _ _ (t2 _ _ A2)) (s1.free hle) rfl rfl ⟨pd,rfl,t3 _ _ A2⟩
  |deep _ hmc h60=>
   refine ifF (λz=>by have:=V.int.inj (of_decide_eq_true z);omega) ?_
   refine⟨_,rfl,_,_,rfl,.inl ⟨_,SqL.of (s1 _ _ hlf),rfl⟩,.inl ⟨rfl,_,rfl,ifT (decide_eq_true (congrArg V.int (by rw[length_append,length_singleton];omega))) ?_⟩⟩
   refine⟨zero_le _,λle hle=>⟨PG.z1,λpd hpd=>⟨PG.z2,λtt htt=> ?_⟩⟩⟩
   have t1':=A3 hle (.lst [])
   have t2:=A3 hpd (.tup [.str "deep"])
   have t3:=A3 htt (.tup [.ref le,.ref pd])
   exact over (s1.trans (t1'.trans (t2.trans t3))) A2 (t3 _ _ (t2 _ _ A2)) (s1.free hle) rfl rfl ⟨pd,rfl,t3 _ _ A2⟩
  | @call _ bk2 st1 xs hmc h60 hfst hbk2 hxz=>
   refine ifF (λz=>by have:=V.int.inj (of_decide_eq_true z);omega) ?_
   refine⟨_,rfl,_,_,rfl,.inl ⟨_,SqL.of (s1 _ _ hlf),rfl⟩,.inl ⟨rfl,_,rfl,ifF (λz=>by have:=V.int.inj (of_decide_eq_true z);rw[length_append,length_singleton]at this;omega) ?_⟩⟩
   refine⟨_,rfl,_,rfl,_,rfl,.inl (.inl ⟨lf,_,rfl,SqL.of (s1 _ _ hlf),λl1 hl1=> ?_⟩)⟩
   rw[QH]
   have t1':=A3 hl1 (.lst gs)
   have s2:=s1.trans t1'
   have m2:=B6 s2
   rw[hfst]at hst
   obtain⟨ds,es,rfl,hds,hes⟩:=E1 hst
   have les:=hes.len
   obtain⟨u2,hu2,tb2,rs2,ur2,rfl,hb21,hb22,hb23,hb24⟩:=E3 hB hbk2
   refine⟨_,rfl,_,rfl,_,rfl,_,rfl,(ixL (s2 _ _ hlf) (G0 _ _) ⟨_,rfl,bl,vb,o,L,us,p,_,_,sl,ds++es,rwa,rfl,s2 _ _ hbl,hC.same s2,hFr.mono m2,by omega,.inl ⟨b,xs.length,bk2.sz,s2 _ _ hrwa,by rw[length_append];omega,⟨tb2,_,_,hu2,s2 _ _ hb21⟩,hxz,by omega,λp1 p2 p3 H2 s3 hp1 hf1 hf2=> ?_⟩⟩)⟩
   rw[length_append,les,add_sub_cancel,List.take_left]at hf1
   rw[length_append,les,add_sub_cancel,List.drop_left]at hf2
   have s4:=s2.trans s3
   refine TL hp1 (s3 _ _ A2) (by omega) λtt l3 H3 t3 htt hl3 hn3=> ?_
   have s5:=s4.trans t3
   have m3:=B6 s5
   have mt:=B6 t3
   have e1:((f.at_+1:Nat):Int)=(f.at_:Nat)+1:=by omega
   have n1:FAt H3 ⟨f.k,f.at_+1,f.sl,st1⟩ (.ref p2):=⟨p2,sl,ds,rfl,by rw[e1];exact hf1.mono mt,hsl.imp λ_ _ z=>VAt.mo m3 z,hds.imp λ_ _ z=>VAt.mo m3 z⟩
   have n2:FAt H3 (begun b bk2.sz xs) (.ref p3):=⟨p3,_,[],rfl,hf2.mono mt,by
    show All2 (VAt H3) (xs++List.replicate (bk2.sz - xs.length) (.sc .non)) _
    rw[les]
    exact(hes.imp λ_ _ z=>VAt.mo m3 z).app (S7 _),.nil⟩
   refine q tt l3 _ us .non _ (λb ob e _ _=>s5 _ _ e) (PG.tb_same hT s5) htt hl3 (s4.free hn3) ?_ (hC.same s5) (hU.imp λ_ _ z=>ClAt.mo m3 z) rfl
   show All2 (FAt H3) (frs++ [⟨f.k,f.at_+1,f.sl,st1⟩]++ [begun b bk2.sz xs]) _
   rw[List.append_assoc]
   exact(hG.imp λ_ _ z=>FAt.mo m3 z).app (.cons n1 (.cons n2 .nil))
 |apply=>
  refine⟨_,rfl,(ixT hrwa rfl (.inl ⟨rfl,_,rfl,ifF (by decide) ?_⟩))⟩
  refine⟨_,rfl,(ixT hrwa rfl ⟨PG.z2,λt1 ht1=> .inr ⟨t1,_,rfl,.inr (SqT.of A2),rfl,rfl,_,rfl,ifF (by decide) ?_⟩⟩)⟩
  have s1:=A3 ht1 (.tup [.str "call",.str "apply"])
  generalize upd H t1 (.tup [.str "call",.str "apply"])=H1 at s1⊢
  have m1:=B6 s1
  refine⟨_,rfl,_,rfl,.inl ⟨rfl,_,rfl, ?_⟩⟩
  cases hact with
  |dry _ hmc=>
   refine ifT (decide_eq_true (congrArg V.int (by omega))) ⟨zero_le _,λle hle=>⟨PG.z1,λpd hpd=>⟨PG.z2,λtt htt=> ?_⟩⟩⟩
   have t1':=A3 hle (.lst [])
   have t2:=A3 hpd (.tup [.str "dry"])
   have t3:=A3 htt (.tup [.ref le,.ref pd])
   exact over (s1.trans (t1'.trans (t2.trans t3))) A2 (t3 _ _ (t2 _ _ A2)) (s1.free hle) rfl rfl ⟨pd,rfl,t3 _ _ A2⟩
  |deep _ hmc h60=>
   refine ifF (λz=>by have:=V.int.inj (of_decide_eq_true z);omega) ?_
   refine⟨_,rfl,_,_,rfl,.inl ⟨_,SqL.of (s1 _ _ hlf),rfl⟩,.inl ⟨rfl,_,rfl,ifT (decide_eq_true (congrArg V.int (by rw[length_append,length_singleton];omega))) ?_⟩⟩
   refine⟨zero_le _,λle hle=>⟨PG.z1,λpd hpd=>⟨PG.z2,λtt htt=> ?_⟩⟩⟩
   have t1':=A3 hle (.lst [])
   have t2:=A3 hpd (.tup [.str "deep"])
   have t3:=A3 htt (.tup [.ref le,.ref pd])
   exact over (s1.trans (t1'.trans (t2.trans t3))) A2 (t3 _ _ (t2 _ _ A2)) (s1.free hle) rfl rfl ⟨pd,rfl,t3 _ _ A2⟩
  | @apply b bk2 st1 j xs x hmc h60 hfst hcj hbk2 hxz=>
   refine ifF (λz=>by have:=V.int.inj (of_decide_eq_true z);omega) ?_
   refine⟨_,rfl,_,_,rfl,.inl ⟨_,SqL.of (s1 _ _ hlf),rfl⟩,.inl ⟨rfl,_,rfl,ifF (λz=>by have:=V.int.inj (of_decide_eq_true z);rw[length_append,length_singleton]at this;omega) ?_⟩⟩
   refine⟨_,rfl,_,rfl,_,rfl,.inl (.inl ⟨lf,_,rfl,SqL.of (s1 _ _ hlf),λl1 hl1=> ?_⟩)⟩
   rw[QH]
   have t1':=A3 hl1 (.lst gs)
   have s2:=s1.trans t1'
   have m2:=B6 s2
   rw[hfst]at hst
   obtain⟨ds,es,rfl,hds,hes⟩:=E1 hst
   cases hes with
   |cons a1 t3=>
    cases t3 with
    | @cons _ x' _ _ a2 t4=>
     cases t4
     obtain⟨cv,rfl,hcv⟩:=a1
     obtain⟨uc,huc,fc,vt,xs',rfl,hfc,hvt,hxs,hx10⟩:=E3 hU hcj
     have lxs:=hxs.len
     obtain⟨u2,hu2,tb2,rs2,ur2,rfl,hb21,hb22,hb23,hb24⟩:=E3 hB hbk2
     refine⟨_,rfl,_,rfl,_,rfl,_,rfl,(ixL (s2 _ _ hlf) (G0 _ _) ⟨_,rfl,bl,vb,o,L,us,p,_,_,sl,_,rwa,rfl,s2 _ _ hbl,hC.same s2,hFr.mono m2,by omega,.inr ⟨b,bk2.sz,ds,cv,x',j,fc,vt,xs',s2 _ _ hrwa,rfl,s2 _ _ hcv,huc,s2 _ _ hfc,s2 _ _ hvt,⟨tb2,_,_,hu2,s2 _ _ hb21⟩,by omega,by omega,λp1 p2 p3 H2 s3 hp1 hf1 hf2=> ?_⟩⟩)⟩
     have s4:=s2.trans s3
     refine TL hp1 (s3 _ _ A2) (by omega) λtt l3 H3 t3 htt hl3 hn3=> ?_
     have s5:=s4.trans t3
     have m3:=B6 s5
     have mt:=B6 t3
     have e1:((f.at_+1:Nat):Int)=(f.at_:Nat)+1:=by omega
     have n1:FAt H3 ⟨f.k,f.at_+1,f.sl,st1⟩ (.ref p2):=⟨p2,sl,ds,rfl,by rw[e1];exact hf1.mono mt,hsl.imp λ_ _ z=>VAt.mo m3 z,hds.imp λ_ _ z=>VAt.mo m3 z⟩
     have n2:FAt H3 (begun b bk2.sz (xs++ [x])) (.ref p3):=⟨p3,_,[],rfl,hf2.mono mt,by
      show All2 (VAt H3) (xs++ [x]++List.replicate (bk2.sz - (xs++ [x]).length) (.sc .non)) _
      rw[length_append,length_append,lxs]
      exact((hxs.imp λ_ _ z=>VAt.mo m3 z).app (.cons (a2.mo m3) .nil)).app (S7 _),.nil⟩
     refine q tt l3 _ us .non _ (λb ob e _ _=>s5 _ _ e) (PG.tb_same hT s5) htt hl3 (s4.free hn3) ?_ (hC.same s5) (hU.imp λ_ _ z=>ClAt.mo m3 z) rfl
     show All2 (FAt H3) (frs++ [⟨f.k,f.at_+1,f.sl,st1⟩]++ [begun b bk2.sz (xs++ [x])]) _
     rw[List.append_assoc]
     exact(hG.imp λ_ _ z=>FAt.mo m3 z).app (.cons n1 (.cons n2 .nil))
end
noncomputable abbrev s_law_asked:Stmt:=CL.top 49
noncomputable abbrev MK:List Str:=["_law_machine","_law_k"]
theorem sc_law_asked:FnScope MK cvZ (A9 s_law_asked):=fS
structure MD (CM C:Addr) (H:Hp) (A:Ad) (bs:List Bk) (most:Nat) (S:Ms) (vb us fs:List V) (out:V):Prop where
 r:MR CM C H A vb us fs (most:Nat) out (S.r:Nat) (S.c:Nat)
 b:All2 (BAt H) bs vb
 c:All2 (ClAt H) S.cs us
 f:All2 (FAt H) S.frs fs
 o:OAt H S.out out
 v:FD S
section
variable{CM C Pt:Addr}{H H':Hp}{A:Ad}{bs:List Bk}{most:Nat}{S:Ms}{vb us fs:List V}{out:V}
theorem MD.at_(h:MD CM C H A bs most S vb us fs out):MAt CM C H A bs most S:=⟨vb,us,fs,out,h.r,h.b,h.c,h.f,h.o⟩
noncomputable def KPt(Pt:Addr)(H H':Hp):Prop:=∀b ob,H b=some ob->b≠Pt->H' b=some ob
theorem KPt.refl(Pt:Addr)(H:Hp):KPt Pt H H:=λ_ _ e _=>e
theorem KPt.of(s:Same H H'):KPt Pt H H':=λ_ _ e _=>s _ _ e
theorem KPt.trans{H1 H2 H3:Hp}(a:KPt Pt H1 H2)(b:KPt Pt H2 H3):KPt Pt H1 H3:=λx o e n=>b _ _ (a _ _ e n) n
theorem KPt.mo(hT:Tb H Pt)(k:KPt Pt H H'):Mo H H':=λb xs e=>k _ _ e (PG.tb_tup hT e)
theorem KPt.free{x:Addr}(k:KPt Pt H H')(hx:H' x=none)(n:x≠Pt):H x=none:=by
 cases e:H x with
 |none=>rfl
 |some ob=>rw[k _ _ e n]at hx;cases hx
theorem BC{x:Addr}(hT:Tb H Pt)(hx:H x=none):x≠Pt:=λz=>by
 obtain⟨qs,e1,_⟩:=hT
 rw[z,e1]at hx;cases hx
theorem MD.pt(h:MD CM C H A bs most S vb us fs out)(hT:Tb H Pt)(k:KPt Pt H H'):MD CM C H' A bs most S vb us fs out:=by
 have m:=k.mo hT
 obtain⟨dx,ho,hL⟩:=h.r.o
 exact⟨⟨k _ _ h.r.m (RG hT h.r.m),k _ _ h.r.bl (PG.tb_lst hT h.r.bl),⟨dx,k _ _ ho (RG hT ho),k _ _ hL (PG.tb_lst hT hL)⟩,k _ _ h.r.s (PG.tb_lst hT h.r.s),h.r.nLs,h.r.nbs,h.r.nbL⟩,h.b.imp λ_ _ z=>BAt.mo m z,h.c.imp λ_ _ z=>ClAt.mo m z,h.f.imp λ_ _ z=>FAt.mo m z,h.o.mo m,h.v⟩
theorem AnsV.from{H0 H1:Hp}{u:V}(h:AnsV H1 H S u)(f:∀x,H1 x=none->H0 x=none):AnsV H0 H S u:=by
 unfold AnsV at h⊢
 cases e:S.out with
 |none=>rw[e]at h;exact h
 |some o=>
  rw[e]at h
  cases o with
  |value x=>
   obtain⟨t,p,r,h1,h2,h3,h4⟩:=h
   exact⟨t,p,r,h1,h2,h3,(PL.R.mono λa xs ho e=>⟨e,f a ho⟩).1 h4⟩
  |refused w=>exact h
  |dry=>exact h
  |deep=>exact h
end
noncomputable def AskR(H0 H:Hp)(S:Ms)(us fs:List V):Nat->V->Prop
 |0,u=>∃l,u=.ref l/\H l=some (.lst fs)/\H0 l=none
 |1,u=>∃l,u=.ref l/\H l=some (.lst us)/\H0 l=none
 |2,u=>u=.int (S.r:Nat)
 |3,u=>u=.int (S.c:Nat)
 |_,u=>AnsV H0 H S u
section
variable{P:Program}{w:World}{K:FZ}{mg:Str->Option Value}{base:Heap}{CM C Pt f CZ:Addr}{gf mf:Str->Addr}{gd md:Str->FuncData}{fd DA:FuncData}
inductive spAskedW(CM C Pt:Addr)(vs:List V)(H:Hp)(Q:VK):Prop
 |mk:∀(A:Ad) (bs:List Bk) (most:Nat) (S:Ms) (vb us fs:List V) (out:V) (k:Nat),(vs=[.ref A.m,.int (k:Nat)])->(k<5)->(MD CM C H A bs most S vb us fs out)->(Tb H Pt)->(∀u H',KPt Pt H H'->Tb H' Pt->AskR H H' S us fs k u->Q u H')->spAskedW CM C Pt vs H Q
noncomputable def SE(CM C Pt:Addr):Sp:=λvs H Q _=>spAskedW CM C Pt vs H Q
theorem ok_law_asked(F:Fun K "_law_asked" "_law_asked" s_law_asked f fd)(RM:MCls K CM gf gd)
  (AY:FnOk P w K mg base CX0 1 (gf "frames") (gd "frames") J1 (FJ CM C))
  (JD:FnOk P w K mg base CX0 2 (gf "cells") (gd "cells") J1 (FL CM C))
  (O7:FnOk P w K mg base CX0 1 (gf "rows_done") (gd "rows_done") J1 (AU CM C true))
  (IT:FnOk P w K mg base CX0 1 (gf "calls") (gd "calls") J1 (AU CM C false))
  (R9:FnOk P w K mg base CX0 6 (gf "answer") (gd "answer") J1 (Y4 CM C Pt)):
  FnOk P w K mg base CX0 7 f fd cvZ (SE CM C Pt):=by
 refine F.ok sc_law_asked (λvs H Q E h=> ?_) (λcdv A outer s H vs Q E hr h=> ?_)
 ·obtain⟨A,bs,most,S,vb,us,fs,out,k,rfl,_⟩:=h
  rfl
 obtain⟨A,bs,most,S,vb,us,fs,out,k,rfl,hk,hM,hT,q⟩:=h
 have nd:=sc_law_asked.nd
 have hu:=hr.units0
 refine⟨_,(A6 (C8 (B2 (kEq (K:=K) hu) (pv 1) A5 rfl) (A7 (B5 (G1 (pv 0) RM.cl RM.m_frames AY (hr.mono (by omega)) RM.b_frames .nil B8))) C1)
   (A6 (C8 (B2 (kEq (K:=K) hu) (pv 1) A5 rfl) (A7 (B5 (G1 (pv 0) RM.cl RM.m_cells JD (hr.mono (by omega)) RM.b_cells .nil B8))) C1)
   (A6 (C8 (B2 (kEq (K:=K) hu) (pv 1) A5 rfl) (A7 (B5 (G1 (pv 0) RM.cl RM.m_rows_done O7 (hr.mono (by omega)) RM.b_rows_done .nil B8))) C1)
   (A6 (C8 (B2 (kEq (K:=K) hu) (pv 1) A5 rfl) (A7 (B5 (G1 (pv 0) RM.cl RM.m_calls IT (hr.mono (by omega)) RM.b_calls .nil B8))) C1)
   (A7 (B5 (G1 (pv 0) RM.cl RM.m_answer R9 (hr.mono (by omega)) RM.b_answer .nil B8))))))), ?_⟩
 match k,hk with
 |0,_=>exact⟨_,rfl,.inl ⟨rfl,_,rfl,ifT rfl ⟨_,rfl,A.m,A.dx,_,rfl,hM.r.m,rfl,A,vb,us,fs,_,_,_,_,rfl,hM.r,λl hl=>q _ _ (.of (A3 hl _)) (PG.tb_same hT (A3 hl _)) ⟨l,rfl,A2,hl⟩⟩⟩⟩
 |1,_=>exact⟨_,rfl,.inl ⟨rfl,_,rfl,ifF (by decide) ⟨_,rfl,.inl ⟨rfl,_,rfl,ifT rfl ⟨_,rfl,A.m,A.dx,_,rfl,hM.r.m,rfl,A,vb,us,fs,_,_,_,_,rfl,hM.r,λl hl=>q _ _ (.of (A3 hl _)) (PG.tb_same hT (A3 hl _)) ⟨l,rfl,A2,hl⟩⟩⟩⟩⟩⟩
 |2,_=>exact⟨_,rfl,.inl ⟨rfl,_,rfl,ifF (by decide) ⟨_,rfl,.inl ⟨rfl,_,rfl,ifF (by decide) ⟨_,rfl,.inl ⟨rfl,_,rfl,ifT rfl ⟨_,rfl,A.m,A.dx,_,rfl,hM.r.m,rfl,A,_,_,_,_,rfl,hM.r.m,q _ _ (.refl _ _) hT rfl⟩⟩⟩⟩⟩⟩⟩
 |3,_=>exact⟨_,rfl,.inl ⟨rfl,_,rfl,ifF (by decide) ⟨_,rfl,.inl ⟨rfl,_,rfl,ifF (by decide) ⟨_,rfl,.inl ⟨rfl,_,rfl,ifF (by decide) ⟨_,rfl,.inl ⟨rfl,_,rfl,ifT rfl ⟨_,rfl,A.m,A.dx,_,rfl,hM.r.m,rfl,A,_,_,_,_,rfl,hM.r.m,q _ _ (.refl _ _) hT rfl⟩⟩⟩⟩⟩⟩⟩⟩⟩
 |4,_=>
  refine⟨_,rfl,.inl ⟨rfl,_,rfl,ifF (by decide) ⟨_,rfl,.inl ⟨rfl,_,rfl,ifF (by decide) ⟨_,rfl,.inl ⟨rfl,_,rfl,ifF (by decide) ⟨_,rfl,.inl ⟨rfl,_,rfl,ifF (by decide) ⟨_,rfl,A.m,A.dx,_,rfl,hM.r.m,rfl,A,bs,most,S,rfl,hM.at_, ?_⟩⟩⟩⟩⟩⟩⟩⟩⟩
  cases e:S.out with
  |none=>
   refine .inr ⟨rfl,λu hu=>q _ _ (.refl _ _) hT ?_⟩
   show AnsV H H S u
   unfold AnsV
   rw[e];exact hu
  |some o=>
   cases o with
   |value x=>
    obtain⟨t,ht,hsz,_⟩:=hM.v x e
    refine .inl ⟨x,t,rfl,ht,hsz,hT,λp r H1 H' k1 hT1 hR hp eH=> ?_⟩
    subst eH
    have s1:=A3 hp (.tup [.str "value",r])
    refine q _ _ (KPt.trans k1 (.of s1)) (PG.tb_same hT1 s1) ?_
    show AnsV H _ S _
    unfold AnsV
    rw[e]
    exact⟨t,p,r,ht,rfl,A2,(PL.R.mono λa xs ho e=>⟨s1 _ _ e,ho⟩).1 hR⟩
   |refused w0=>
    refine .inr ⟨rfl,λu hu=>q _ _ (.refl _ _) hT ?_⟩
    show AnsV H H S u
    unfold AnsV
    rw[e];exact hu
   |dry=>
    refine .inr ⟨rfl,λu hu=>q _ _ (.refl _ _) hT ?_⟩
    show AnsV H H S u
    unfold AnsV
    rw[e];exact hu
   |deep=>
    refine .inr ⟨rfl,λu hu=>q _ _ (.refl _ _) hT ?_⟩
    show AnsV H H S u
    unfold AnsV
    rw[e];exact hu
end
end LR
namespace LR
open PySem L2 CL SW MC MT
open BV hiding ifT ifF NoG top
open PG (z1 z2 z3 U3)
seal PE PT PW PA PS PSs PTs PI L2.PG PGs PO
noncomputable abbrev s_law_seen:Stmt:=CL.top 50
noncomputable abbrev GC:List Str:=["_law_machine","_law_bits","_law_order","_law_found","_law_k"]
theorem sc_law_seen:FnScope GC bDZ (A9 s_law_seen):=fS
noncomputable def ML(H H':Hp):Prop:=Mo H H'/\∀b xs,H b=some (.lst xs)->H' b=some (.lst xs)
theorem KPt.ml{H H':Hp}{Pt:Addr}(hT:Tb H Pt)(k:KPt Pt H H'):ML H H':=⟨k.mo hT,λb xs e=>k _ _ e (PG.tb_lst hT e)⟩
theorem a1Z{H:Hp}{d:Addr}{kvs:List (Key×V)}{o:HO}(h:H d=some (.dK kvs)):ML H (upd H d o):=
 ⟨λb xs e=>by rw[B0 λz=>by rw[z,h]at e;cases e];exact e,λb xs e=>by rw[B0 λz=>by rw[z,h]at e;cases e];exact e⟩
theorem AnsV.ml{H0 H H':Hp}{S:Ms}{u:V}(h:AnsV H0 H S u)(m:ML H H'):AnsV H0 H' S u:=by
 unfold AnsV at h⊢
 cases e:S.out with
 |none=>rw[e]at h;exact h
 |some o=>
  rw[e]at h
  cases o with
  |value x=>
   obtain⟨t,p,r,h1,h2,h3,h4⟩:=h
   exact⟨t,p,r,h1,h2,m.1 _ _ h3,(PL.R.mono λa xs ho e=>⟨m.2 _ _ e,ho⟩).1 h4⟩
  |refused w=>exact OAt.mo m.1 h
  |dry=>exact OAt.mo m.1 h
  |deep=>exact OAt.mo m.1 h
theorem AskR.ml{H0 H H':Hp}{S:Ms}{us fs:List V}(m:ML H H'):∀ {k:Nat} {u:V},AskR H0 H S us fs k u->AskR H0 H' S us fs k u
 |0,_,⟨l,e,h1,h2⟩=>⟨l,e,m.2 _ _ h1,h2⟩
 |1,_,⟨l,e,h1,h2⟩=>⟨l,e,m.2 _ _ h1,h2⟩
 |2,_,h=>h
 |3,_,h=>h
 |_+4,_,h=>AnsV.ml h m
theorem AskR.from{H0 H1 H:Hp}{S:Ms}{us fs:List V}(f:∀x,H1 x=none->H0 x=none):∀ {k:Nat} {u:V},AskR H1 H S us fs k u->AskR H0 H S us fs k u
 |0,_,⟨l,e,h1,h2⟩=>⟨l,e,h1,f _ h2⟩
 |1,_,⟨l,e,h1,h2⟩=>⟨l,e,h1,f _ h2⟩
 |2,_,h=>h
 |3,_,h=>h
 |_+4,_,h=>AnsV.from h f
theorem MD.dk{CM C:Addr}{H:Hp}{A:Ad}{bs:List Bk}{most:Nat}{S:Ms}{vb us fs:List V}{out:V}{d:Addr}{kvs:List (Key×V)}{o:HO}(h:MD CM C H A bs most S vb us fs out)(hd:H d=some (.dK kvs)):MD CM C (upd H d o) A bs most S vb us fs out:=by
 have m:=a1Z (o:=o) hd
 have i:∀ {x C dx:Addr} {fl:List (Str×V)},H x=some (.ins C dx fl)->upd H d o x=some (.ins C dx fl):=λ{x C dx fl} e=>by rw[B0 λz=>by rw[z,hd]at e;cases e];exact e
 obtain⟨dx,ho,hL⟩:=h.r.o
 exact⟨⟨i h.r.m,m.2 _ _ h.r.bl,⟨dx,i ho,m.2 _ _ hL⟩,m.2 _ _ h.r.s,h.r.nLs,h.r.nbs,h.r.nbL⟩,h.b.imp λ_ _ z=>BAt.mo m.1 z,h.c.imp λ_ _ z=>ClAt.mo m.1 z,h.f.imp λ_ _ z=>FAt.mo m.1 z,h.o.mo m.1,h.v⟩
structure Ord5 (ks:List Nat):Prop where
 len:ks.length=5
 lt:∀k∈ks,k<5
 all:∀k,k<5->k∈ks
theorem Ord5.rev{ks:List Nat}(h:Ord5 ks):Ord5 ks.reverse:=⟨by rw[length_reverse];exact h.len,λk hk=>h.lt k (List.mem_reverse.mp hk),λk hk=>List.mem_reverse.mpr (h.all k hk)⟩
noncomputable abbrev nv(ks:List Nat):List V:=ks.map λk=>V.int (k:Nat)
theorem aMZ{j:Nat}(h:j<5):∃ks,G9 [.int 0,.int 1,.int 2,.int 3,.int 4] (some (j:Int)) none++G9 [.int 0,.int 1,.int 2,.int 3,.int 4] none (some (j:Int))=nv ks/\Ord5 ks:=by
 match j,h with
 |0,_=>exact⟨[0,1,2,3,4],rfl,rfl,by decide,by decide⟩
 |1,_=>exact⟨[1,2,3,4,0],rfl,rfl,by decide,by decide⟩
 |2,_=>exact⟨[2,3,4,0,1],rfl,rfl,by decide,by decide⟩
 |3,_=>exact⟨[3,4,0,1,2],rfl,rfl,by decide,by decide⟩
 |4,_=>exact⟨[4,0,1,2,3],rfl,rfl,by decide,by decide⟩
section
variable{P:Program}{w:World}{K:FZ}{mg:Str->Option Value}{base:Heap}{CM C Pt f CZ:Addr}{fd DA:FuncData}
inductive spSeenW(CM C Pt:Addr)(vs:List V)(H:Hp)(Q:VK):Prop
 |mk:∀(A:Ad) (bs:List Bk) (most:Nat) (S:Ms) (vb us fs:List V) (out:V) (bits:Int),(vs=[.ref A.m,.int bits])->(MD CM C H A bs most S vb us fs out)->(Tb H Pt)->(∀l lf lc ans H',KPt Pt H H'->Tb H' Pt->H' l=some (.lst [.ref lf,.ref lc,.int (S.r:Nat),.int (S.c:Nat),ans])->H' lf=some (.lst fs)->H' lc=some (.lst us)->H lf=none->H lc=none->lf≠lc->AnsV H H' S ans->Q (.ref l) H')->spSeenW CM C Pt vs H Q
noncomputable def XX(CM C Pt:Addr):Sp:=λvs H Q _=>spSeenW CM C Pt vs H Q
theorem ok_law_seen(F:Fun K "_law_seen" "_law_seen" s_law_seen f fd)(B:NoG mg)
  (X3:Cn P w K mg base CX0 7 "_law_asked" cvZ (SE CM C Pt)):
  FnOk P w K mg base CX0 8 f fd bDZ (XX CM C Pt):=by
 obtain⟨CZ,DA,X3,KY,LM,LG⟩:=X3
 refine F.ok sc_law_seen (λvs H Q E h=> ?_) (λcdv A outer s H vs Q E hr h=> ?_)
 ·obtain⟨A,bs,most,S,vb,us,fs,out,bits,rfl,_⟩:=h
  rfl
 obtain⟨A,bs,most,S,vb,us,fs,out,bits,rfl,hM,hT,q⟩:=h
 have nd:=sc_law_seen.nd
 have hu:=hr.units0
 refine⟨_,(A6 (C5 (i:=2) nd rfl (Or.inl rfl) (B4 (M2 (K:=K)) (G5 (W7 (K:=K)) (D4 (A0 A5 (A0 A5 (A0 A5 (A0 A5 (A0 A5 A4)))))) (J3 (B4 D7 (pv 1) A5)) K4) (G5 (W7 (K:=K)) (D4 (A0 A5 (A0 A5 (A0 A5 (A0 A5 (A0 A5 A4)))))) K4 (J3 (B4 D7 (pv 1) A5)))))
   (A6 (D8 (C8 (B2 (kEq (K:=K) hu) (B4 D7 (B4 D1 (pv 1) A5) A5) A5 rfl) (A7 (C5 (i:=2) nd rfl (Or.inl rfl) (cKZ (K:=K) (pv 2) (J0 E4 A5)))) C1))
   (A6 (C5 (i:=3) nd rfl (Or.inr rfl) YT)
   (A6 (D8 (U0 PassesOwn.never rfl (Z4 (K:=K) (pv 2)) (G4 (i:=4) nd rfl (Or.inl rfl)) (A7 (P8 (B1 X3 (hr.mono (by omega)) rfl LG LM KY .nil B8 (A0 (pv 0) (A0 (pv 4) A4))) (W3 (pv 3) (pv 4) (MN hr.units))))))
   (A7 (B5 (Z3 (cS (N:=GC) (sc:=A9 s_law_seen) (caps:=[3]) (ns:=["_law_found"])) rfl rfl rfl (L9 rfl B.range_ (A0 A5 A4)) (λ_ _ _ _ _=>R5) (λ_ _ _ _ _=>(C7 (lt_of_le_of_lt (add_le_add_left (by decide:1<=64) _) hr.units) (pv 1) (pv 0) (λ_ _=>rfl)))))))))), ?_⟩
 obtain⟨j,(ej:bits%5=(j:Int)),hj⟩:=U3 bits (m:=5) (by decide)
 obtain⟨ks0,eks,hks0⟩:=aMZ hj
 have z5:(5:Nat)<=sizeLine:=by decide
 have big10:∀n:Nat,n<=10->n<=sizeLine:=λn h=>le_trans h (by decide)
 refine⟨z5,λl1 hl1=>⟨_,rfl,_,_,rfl,rfl,(by decide:(0:Int)<5),(j:Int),congrArg V.int ej,.inl (.inl ⟨l1,_,rfl,SqL.of A2,λc1 hc1=>⟨z5,λl2 hl2=>⟨_,rfl,_,_,rfl,rfl,(by decide:(0:Int)<5),(j:Int),congrArg V.int ej,.inl (.inl ⟨l2,_,rfl,SqL.of A2,λc2 hc2=> ?_⟩)⟩⟩⟩)⟩⟩
 have s1:=A3 hl1 (.lst [.int 0,.int 1,.int 2,.int 3,.int 4])
 have s2:=A3 hc1 (.lst (G9 [.int 0,.int 1,.int 2,.int 3,.int 4] (some (j:Int)) none))
 have s3:=A3 hl2 (.lst [.int 0,.int 1,.int 2,.int 3,.int 4])
 have s4:=A3 hc2 (.lst (G9 [.int 0,.int 1,.int 2,.int 3,.int 4] none (some (j:Int))))
 have lks:=congrArg List.length eks
 rw[length_append,length_map,hks0.len]at lks
 refine .inr (.inl ⟨c1,c2,_,_,rfl,rfl,s4 _ _ (s3 _ _ A2),A2,big10 _ (by omega),λlo hlo=> ?_⟩)
 rw[eks]
 have s5:=A3 hlo (.lst (nv ks0))
 have sA:=s1.trans (s2.trans (s3.trans (s4.trans s5)))
 show M0 _ _ _ [some (.ref A.m),some (.int bits),some (.ref lo),none,none] _
 have hlo1:=A2 (H:=upd (upd (upd (upd H l1 (.lst [.int 0,.int 1,.int 2,.int 3,.int 4])) c1 (.lst (G9 [.int 0,.int 1,.int 2,.int 3,.int 4] (some (j:Int)) none))) l2 (.lst [.int 0,.int 1,.int 2,.int 3,.int 4])) c2 (.lst (G9 [.int 0,.int 1,.int 2,.int 3,.int 4] none (some (j:Int))))) (a:=lo) (o:=.lst (nv ks0))
 generalize upd (upd (upd (upd (upd H l1 (.lst [.int 0,.int 1,.int 2,.int 3,.int 4])) c1 (.lst (G9 [.int 0,.int 1,.int 2,.int 3,.int 4] (some (j:Int)) none))) l2 (.lst [.int 0,.int 1,.int 2,.int 3,.int 4])) c2 (.lst (G9 [.int 0,.int 1,.int 2,.int 3,.int 4] none (some (j:Int))))) lo (.lst (nv ks0))=H1 at sA hlo1⊢
 clear s1 s2 s3 s4 s5 hl1 hc1 hl2 hc2 hlo eks lks
 refine⟨fun σ' H'=>∃lo ks,σ'=[some (.ref A.m),some (.int bits),some (.ref lo),none,none]/\Same H H'/\H' lo=some (.lst (nv ks))/\Ord5 ks,⟨_,rfl,_,_,rfl,rfl,K67.lg (by decide) (by decide),_,_,rfl,rfl,(by decide:(0:Int)<2),.inl ⟨rfl,_,rfl, ?_⟩⟩, ?_⟩
 ·by_cases c1:bits.fdiv 5%2=1
  ·refine ifT (decide_eq_true (congrArg V.int c1)) ⟨_,rfl,_,rfl,rfl,lo,_,rfl,SqL.of hlo1,λl2 hl2=>⟨l2,ks0.reverse,rfl,sA.trans (A3 hl2 _), ?_,hks0.rev⟩⟩
   rw[A2,<-List.map_reverse]
  ·exact ifF (λz=>c1 (by have:=of_decide_eq_true z;injection this)) ⟨lo,ks0,rfl,sA,hlo1,hks0⟩
 clear sA hlo1
 rintro _ H2 ⟨lo,ks,rfl,s2,hlo,hks⟩
 refine λd hd=> ?_
 have s3:=s2.trans (A3 hd (.dK []))
 have hlo3:=(A3 hd (.dK [])) _ _ hlo
 have hd3:upd H2 d (.dK []) d=some (.dK []):=A2
 have hdH:H d=none:=s2.free hd
 show M0 _ _ _ [some (.ref A.m),some (.int bits),some (.ref lo),some (.ref d),none] _
 generalize upd H2 d (.dK [])=H3 at s3 hlo3 hd3⊢
 have hT3:=PG.tb_same hT s3
 have hM3:=hM.pt hT (.of s3)
 have lnv:(nv ks).length=5:=by rw[length_map];exact hks.len
 refine⟨fun σ' H'=>∃x kvs,σ'=[some (.ref A.m),some (.int bits),some (.ref lo),some (.ref d),x]/\KPt Pt H H'/\Tb H' Pt/\H' d=some (.dK kvs)/\(∀k:Nat,k<5->∃u,N8 kvs (.inl (k:Int))=some u/\AskR H H' S us fs k u)/\∀l0 l1,N8 kvs (.inl ((0:Nat):Int))=some (.ref l0)->N8 kvs (.inl ((1:Nat):Int))=some (.ref l1)->l0≠l1, ?_, ?_⟩
 ·refine⟨_,rfl,lo,rfl,⟨_,SqL.of hlo3⟩,BG (xs:=nv ks) (λi σ' H'=>∃x kvs,σ'=[some (.ref A.m),some (.int bits),some (.ref lo),some (.ref d),x]/\KPt Pt H H'/\Tb H' Pt/\H' lo=some (.lst (nv ks))/\H' d=some (.dK kvs)/\kvs.length<=i/\MD CM C H' A bs most S vb us fs out/\(∀k:Nat,k∈ks.take i->∃u,N8 kvs (.inl (k:Int))=some u/\AskR H H' S us fs k u)/\(∀(k:Nat) (u:V),N8 kvs (.inl (k:Int))=some u->k∈ks.take i)/\∀l0 l1,N8 kvs (.inl ((0:Nat):Int))=some (.ref l0)->N8 kvs (.inl ((1:Nat):Int))=some (.ref l1)->l0≠l1) ?_ ?_ ?_ ?_⟩
  ·exact⟨none,[],rfl,.of s3,hT3,hlo3,hd3,le_refl _,hM3,λk hk=>(by rw[List.take_zero]at hk;cases hk),(λk u z=>nomatch z),(λl0 l1 z=>nomatch z)⟩
  ·rintro i σ' H' _ ⟨x,kvs,rfl,_,_,hl',_⟩
   exact SqL.of hl'
  ·rintro i x σ' H' hx ⟨x4,kvs,rfl,k',hT',hl',hd',hle,hM',hall,hin,hne⟩
   have hi:i<ks.length:=by rw[hks.len,<-lnv];exact(List.getElem?_eq_some_iff.mp hx).1
   obtain⟨k,hk⟩:∃k,ks[i]? =some k:=⟨_,List.getElem?_eq_getElem hi⟩
   have ex:x=.int (k:Nat):=by rw[getElem?_map,hk]at hx;exact(Option.some.inj hx).symm
   subst ex
   have hk5:=hks.lt k (mem_of_getElem? hk)
   have etk:ks.take (i+1)=ks.take i++ [k]:=by rw[take_succ,hk];rfl
   have hi5:i<5:=by rw[<-hks.len];exact hi
   refine⟨_,rfl,_,rfl,A,bs,most,S,vb,us,fs,out,k,rfl,hk5,hM',hT',λu H4 k4 hT4 hA4=> ?_⟩
   have ndp:d≠Pt:=λz=>by obtain⟨qs,e1,_⟩:=hT';rw[<-z,hd']at e1;cases e1
   have hd4:=k4 _ _ hd' ndp
   have ml4:=KPt.ml hT' k4
   refine⟨_,rfl,_,rfl,d,_,rfl,DPut.k (k:=.inl (k:Int)) hd4 (lt_of_le_of_lt hle (lt_of_lt_of_le hi5 (by decide))), ?_⟩
   have ml5:ML H4 (upd H4 d (.dK (V8 kvs (.inl (k:Int)) u))):=a1Z hd4
   have fresh:∀x,H' x=none->H x=none:=λx hx=>k'.free hx (BC hT' hx)
   have key:∀a b:Nat,((Sum.inl (a:Int):Key)=Sum.inl (b:Int))↔a=b:=λa b=>⟨λe=>by have e1:(a:Int)=(b:Int):=Sum.inl.inj e;omega,λe=>by rw[e]⟩
   refine⟨_,V8 kvs (.inl (k:Int)) u,rfl,λb ob e n=> ?_, ?_,ml5.2 _ _ (ml4.2 _ _ hl'),A2, ?_,(hM'.pt hT' k4).dk hd4,λk1 hk1=> ?_,λk1 u1 e1=> ?_,λl0 l1 e0 e1=> ?_⟩
   ·rw[B0 λz=>by rw[z,hdH]at e;cases e];exact k4 _ _ (k' _ _ e n) n
   ·obtain⟨qs,e1,e2,e3⟩:=hT4
    refine⟨qs,by rw[B0 (Ne.symm ndp)];exact e1,e2, ?_⟩
    rcases e3 with e3|⟨c2,e3,e4⟩
    ·exact .inl e3
    ·exact .inr ⟨c2,e3,by rw[B0 λz=>by rw[z,hd4]at e4;cases e4];exact e4⟩
   ·refine le_trans (T2 _ _ _) (succ_le_succ hle)
   ·rw[EY]
    by_cases c:k1=k
    ·subst c
     rw[if_pos rfl]
     exact⟨u,rfl,(hA4.from fresh).ml ml5⟩
    ·rw[if_neg λe=>c ((key _ _).mp e)]
     rw[etk]at hk1
     rcases mem_append.mp hk1 with h|h
     ·obtain⟨u1,h1,h2⟩:=hall k1 h
      exact⟨u1,h1,(h2.ml ml4).ml ml5⟩
     ·exact absurd (sZ h) c
   ·rw[EY]at e1
    rw[etk]
    by_cases c:k1=k
    ·exact mem_append_right _ (mem_singleton.mpr c)
    ·rw[if_neg λe=>c ((key _ _).mp e)]at e1
     exact mem_append_left _ (hin k1 u1 e1)
   ·rw[EY]at e0 e1
    by_cases c0:(0:Nat)=k
    ·subst c0
     rw[if_pos rfl]at e0
     rw[if_neg λe=>(by decide:(1:Nat)≠0) ((key _ _).mp e)]at e1
     obtain⟨u1,h1,l,e2,h2,_⟩:=hall 1 (hin 1 _ e1)
     obtain⟨l',e3,_,h3⟩:=hA4
     have ea:l1=l:=V.ref.inj ((Option.some.inj (e1.symm.trans h1)).trans e2)
     have eb:l0=l':=V.ref.inj ((Option.some.inj e0).symm.trans e3)
     exact λz=>by rw[<-eb,z,ea,h2]at h3;cases h3
    ·rw[if_neg λe=>c0 ((key _ _).mp e)]at e0
     by_cases c1:(1:Nat)=k
     ·subst c1
      rw[if_pos rfl]at e1
      obtain⟨u1,h1,l,e2,h2,_⟩:=hall 0 (hin 0 _ e0)
      obtain⟨l',e3,_,h3⟩:=hA4
      have ea:l0=l:=V.ref.inj ((Option.some.inj (e0.symm.trans h1)).trans e2)
      have eb:l1=l':=V.ref.inj ((Option.some.inj e1).symm.trans e3)
      exact λz=>by rw[<-eb,<-z,ea,h2]at h3;cases h3
     ·rw[if_neg λe=>c1 ((key _ _).mp e)]at e1
      exact hne l0 l1 e0 e1
  ·rintro σ' H' ⟨x,kvs,rfl,k',hT',_,hd',_,_,hall,_,hne⟩
   rw[lnv,<-hks.len,take_length]at hall
   exact⟨x,kvs,rfl,k',hT',hd',λk hk=>hall k (hks.all k hk),hne⟩
 rintro _ H4 ⟨x,kvs,rfl,k4,hT4,hd4,hall,hne⟩
 refine⟨((5:Nat):Int),rfl,by decide,by decide,O5 (n:=5) (λi ys H'=>H'=H4/\ys=(List.range i).map λ(k:Nat)=>(N8 kvs (.inl (k:Int))).getD .non) ⟨rfl,rfl⟩ ?_ ?_ ?_⟩
 ·rintro i ys H' hi ⟨rfl,rfl⟩
  rw[length_map,List.length_range]
  exact le_trans hi (by decide)
 ·rintro i ys H' hi ⟨rfl,rfl⟩
  obtain⟨u,hu1,_⟩:=hall i hi
  refine⟨_,rfl,_,rfl,d,u,rfl, ?_,rfl, ?_⟩
  ·rw[Int.zero_add,<-hu1];exact DGet.k (k:=.inl (i:Int)) hd4
  ·rw[List.range_succ,map_append]
   show _=_++ [(N8 kvs (.inl (i:Int))).getD .non]
   rw[hu1];rfl
 rintro ys H' ⟨rfl,rfl⟩
 intro D hD
 obtain⟨u0,h0,lf,rfl,hf,hf0⟩:=hall 0 (by decide)
 obtain⟨u1,h1,lc,rfl,hc,hc0⟩:=hall 1 (by decide)
 obtain⟨u2,h2,rfl⟩:=hall 2 (by decide)
 obtain⟨u3,h3,rfl⟩:=hall 3 (by decide)
 obtain⟨u4,h4,hA⟩:=hall 4 (by decide)
 have e5:((List.range 5).map λ(k:Nat)=>(N8 kvs (.inl (k:Int))).getD .non)=[.ref lf,.ref lc,.int (S.r:Nat),.int (S.c:Nat),u4]:=by
  show [(N8 kvs (.inl ((0:Nat):Int))).getD .non,(N8 kvs (.inl ((1:Nat):Int))).getD .non,(N8 kvs (.inl ((2:Nat):Int))).getD .non,(N8 kvs (.inl ((3:Nat):Int))).getD .non,(N8 kvs (.inl ((4:Nat):Int))).getD .non]=_
  rw[h0,h1,h2,h3,h4];rfl
 rw[e5]
 have sD:=A3 hD (.lst [.ref lf,.ref lc,.int (S.r:Nat),.int (S.c:Nat),u4])
 exact q D lf lc u4 _ (k4.trans (.of sD)) (PG.tb_same hT4 sD) A2 (sD _ _ hf) (sD _ _ hc) hf0 hc0 (hne lf lc h0 h1) (hA.ml ⟨B6 sD,λb xs e=>sD _ _ e⟩)
end
end LR
namespace LR
open PySem L2 CL SW MC MT
open K67 (lg P1 DqS)
open PG (z1 z2 z3)
open BV hiding ifT ifF NoG top
seal PE PT PW PA PS PSs PTs PI L2.PG PGs PO
noncomputable abbrev s_law_step:Stmt:=CL.top 51
noncomputable abbrev QZ:List Str:=["_law_machine","_law_blocks","_law_most","_law_copies","_law_bits","_law_frames","_law_cells","_law_done","_law_counted","_law_told","_law_heap_here","_law_counts","_law_due_here","_law_row"]
theorem sc_law_step:FnScope QZ cwZ (A9 s_law_step):=fS
theorem YN(row:Rw):∃w0,atI (rwV row) 0=some (.str w0)/\(inV (.str w0) [.str "call",.str "apply"]=true↔U1 row):=by
 cases row with
 |own rk=>
  refine⟨T9 rk,HL rk, ?_⟩
  rw[(FS rk).2]
  exact⟨λz=>(nomatch z),λz=>by rcases z with⟨_,_,h⟩|h<;>cases h⟩
 |back=>exact⟨"back",rfl,λz=>absurd z (by decide),λz=>by rcases z with⟨_,_,h⟩|h<;>cases h⟩
 |call b m=>exact⟨"call",rfl,λ_=> .inl ⟨b,m,rfl⟩,λ_=>by decide⟩
 |apply=>exact⟨"apply",rfl,λ_=> .inr rfl,λ_=>by decide⟩
theorem c2Z{bs:List Bk}{most:Nat}{cs:List Cl}{fs:List Fr}{f:Fr}{r c:Nat}{w:Rw}{S':Ms}(h:Act bs most cs fs f r c w S'):S'.r=r+1:=by cases h<;>rfl
theorem dyZ{bs:List Bk}{most:Nat}{cs:List Cl}{fs:List Fr}{f:Fr}{r c:Nat}{w:Rw}{S':Ms}(h:Act bs most cs fs f r c w S')(b:Bool)(hb:b=true↔U1 w/\c<most):S'.c=c+if b=true then 1 else 0:=by
 have no:∀rk,¬U1 (.own rk):=λrk z=>by rcases z with⟨_,_,h⟩|h<;>cases h
 have nb:¬U1 .back:=λz=>by rcases z with⟨_,_,h⟩|h<;>cases h
 cases h with
 |own _=>rw[if_neg λz=>no _ (hb.mp z).1];rfl
 |new _=>rw[if_neg λz=>no _ (hb.mp z).1];rfl
 |rf _=>rw[if_neg λz=>no _ (hb.mp z).1];rfl
 |last _ _=>rw[if_neg λz=>nb (hb.mp z).1];rfl
 |back _ _=>rw[if_neg λz=>nb (hb.mp z).1];rfl
 |dry _ h2=>rw[if_neg λz=>by have:=(hb.mp z).2;omega];rfl
 |deep h1 h2 _=>rw[if_pos (hb.mpr ⟨h1,h2⟩)]
 |call h1=>rw[if_pos (hb.mpr ⟨.inl ⟨_,_,rfl⟩,h1⟩)]
 |apply h1=>rw[if_pos (hb.mpr ⟨.inr rfl,h1⟩)]
theorem MD.keep{CM C:Addr}{H H':Hp}{A:Ad}{bs:List Bk}{most:Nat}{S:Ms}{vb us fs:List V}{out:V}{X:Addr->Prop}(h:MD CM C H A bs most S vb us fs out)(k:∀b ob,H b=some ob->¬X b->H' b=some ob)(hX:∀a∈A.own,¬X a)(hx:∀b,X b->∃xs,H b=some (.lst xs)):MD CM C H' A bs most S vb us fs out:=by
 have m:Mo H H':=λb xs e=>k _ _ e λz=>by
  obtain⟨ys,e'⟩:=hx b z
  rw[e]at e';cases e'
 obtain⟨dx,ho,hL⟩:=h.r.o
 have n:∀a,a=A.m\/a=A.bl\/a=A.o\/a=A.L\/a=A.s->¬X a:=λa ha=>hX a (by simpa [Ad.own]using ha)
 exact⟨⟨k _ _ h.r.m (n _ (.inl rfl)),k _ _ h.r.bl (n _ (.inr (.inl rfl))),⟨dx,k _ _ ho (n _ (.inr (.inr (.inl rfl)))),k _ _ hL (n _ (.inr (.inr (.inr (.inl rfl)))))⟩,k _ _ h.r.s (n _ (.inr (.inr (.inr (.inr rfl))))),h.r.nLs,h.r.nbs,h.r.nbL⟩,h.b.imp λ_ _ z=>BAt.mo m z,h.c.imp λ_ _ z=>ClAt.mo m z,h.f.imp λ_ _ z=>FAt.mo m z,h.o.mo m,h.v⟩
theorem AnsV.keep{H0 H H':Hp}{S:Ms}{u:V}(h:AnsV H0 H S u)(m:Mo H H')(l:∀a xs,H0 a=none->H a=some (.lst xs)->H' a=some (.lst xs)):AnsV H0 H' S u:=by
 unfold AnsV at h⊢
 cases e:S.out with
 |none=>rw[e]at h;exact h
 |some o=>
  rw[e]at h
  cases o with
  |value x=>
   obtain⟨t,p,r,h1,h2,h3,h4⟩:=h
   exact⟨t,p,r,h1,h2,m _ _ h3,(PL.R.mono λa xs ho e=>⟨l _ _ ho e,ho⟩).1 h4⟩
  |refused w=>exact OAt.mo m h
  |dry=>exact OAt.mo m h
  |deep=>exact OAt.mo m h
theorem MO{H H':Hp}{Pt:Addr}{X:Addr->Prop}(hT:Tb H Pt)(k:∀b ob,H b=some ob->¬X b->H' b=some ob)(hx:∀b,X b->∃xs,H b=some (.lst xs)):Tb H' Pt:=by
 obtain⟨qs,e1,e2,e3⟩:=hT
 refine⟨qs,k _ _ e1 λz=>(by obtain⟨ys,e⟩:=hx _ z;rw[e1]at e;cases e),e2, ?_⟩
 rcases e3 with e3|⟨c2,e3,e4⟩
 ·exact .inl e3
 ·exact .inr ⟨c2,e3,k _ _ e4 λz=>(by obtain⟨ys,e⟩:=hx _ z;rw[e4]at e;cases e)⟩
noncomputable def CpAt(H:Hp)(X:Addr->Prop)(u:V):Prop:=∃t a b xs,u=.ref t/\H t=some (.tup [.ref a,.ref b])/\H a=some (.lst xs)/\H b=some (.lst xs)/\xs.all P0=true/\¬X a/\¬X b
section
variable{P:Program}{w:World}{K:FZ}{mg:Str->Option Value}{base:Heap}{CM C Pt f OB NN UI R7:Addr}{gf mf:Str->Addr}{gd md:Str->FuncData}{fd NU OL UE R8:FuncData}
inductive spStepLW(CM C Pt:Addr)(vs:List V)(H:Hp)(Q:VK):Prop
 |mk:∀(A:Ad) (bs:List Bk) (most:Nat) (S S':Ms) (vb us fs:List V) (out:V) (vb2:List V) (bl cp:Addr) (cps:List V) (bits:Int),(vs=[.ref A.m,.ref bl,.int (most:Nat),.ref cp,.int bits])->(MD CM C H A bs most S vb us fs out)->(axZ bs most S S')->(Small S)->(Small S')->(FD S')->(S.c<=most)->(H bl=some (.lst vb2))->(All2 (BAt H) bs vb2)->(bl∉A.own)->(H cp=some (.lst cps))->(cp∉A.own)->(bl≠cp)->(cps.length<=200)->((∀u∈cps,CpAt H (λa=>a∈A.own\/a=cp) u))->(Tb H Pt)->(∀A' cps' H',New A A' H->(∀b ob,H b=some ob->b∉A.own->b≠Pt->b≠cp->H' b=some ob)->Tb H' Pt->MAt CM C H' A' bs most S'->H' cp=some (.lst cps')->cps'.length=cps.length+2->(∀u∈cps',CpAt H' (λa=>a∈A'.own\/a=cp) u)->Q (.bl true) H')->spStepLW CM C Pt vs H Q
noncomputable def SF(CM C Pt:Addr):Sp:=λvs H Q _=>spStepLW CM C Pt vs H Q
theorem ok_law_step(F:Fun K "_law_step" "_law_step" s_law_step f fd)(B:BV.NoG mg)(hint:mg "int"=none)(RM:MCls K CM gf gd)(RC:RCls K C mf md)
  (PH:FnOk P w K mg base CX0 1 (mf "told") (md "told") J1 (KD C))
  (OR:FnOk P w K mg base CX0 5 (gf "step") (gd "step") J1 (RO CM C))
  (U9:Cn P w K mg base CX0 8 "_law_seen" bDZ (XX CM C Pt))
  (AN:Cn P w K mg base CX0 3 "_law_heap" ["_law_cells"] (YM C))
  (BS:Cn P w K mg base CX0 7 "_law_due" q1L (ZG C Pt))
  (E7:Cn P w K mg base CX0 6 "_law_same" q9L (P1 5)):
  FnOk P w K mg base CX0 9 f fd cwZ (SF CM C Pt):=by
 obtain⟨OB,NU,U9,EH,EF,EI⟩:=U9
 obtain⟨NN,OL,AN,OK,NO,OS⟩:=AN
 obtain⟨UI,UE,BS,TY,UJ,UN⟩:=BS
 obtain⟨R7,R8,E7,G6,G7,G8⟩:=E7
 refine F.ok sc_law_step (λvs H Q E h=> ?_) (λcdv A outer s H vs Q E hr h=> ?_)
 ·obtain⟨A,bs,most,S,S',vb,us,fs,out,vb2,bl,cp,cps,bits,rfl,_⟩:=h
  rfl
 obtain⟨A,bs,most,S,S',vb,us,fs,out,vb2,bl,cp,cps,bits,rfl,hM,hstep,hsm,hsm',hval,hcm,hbl,hB2,nbl,hcp,ncp,nbc,hcl,hcps,hT,q⟩:=h
 have nd:=sc_law_step.nd
 have hu:=hr.units0
 refine⟨_,(A6 (P8 (B1 U9 (hr.mono (by omega)) rfl EI EF EH .nil B8 (A0 (pv 0) (A0 (pv 4) A4))) (csZ rfl (L0 (G4 (i:=5) nd rfl (Or.inl rfl)) (L0 (G4 (i:=6) nd rfl (Or.inl rfl)) (L0 (G4 (i:=7) nd rfl (Or.inl rfl)) (L0 (G4 (i:=8) nd rfl (Or.inl rfl)) (L0 (G4 (i:=9) nd rfl (Or.inl rfl)) BJ)))))))
   (A6 (C8 (B2 (aNZ (K:=K) hu) (pv 5) (D4 A4) rfl) (A7 (B5 W5)) C1)
   (A6 (C5 (i:=10) nd rfl (Or.inl rfl) (B1 AN (hr.mono (by omega)) rfl OS NO OK .nil B8 (A0 (pv 6) A4)))
   (A6 (D8 (C5 (i:=11) nd rfl (Or.inl rfl) (CD (N2 (kIn (K:=K) (w:=w)) (ixE K w (ixE K w (ixE K w (ixE K w (pv 1) (ixE K w (ixE K w (pv 5) (J0 E4 A5)) A5)) A5) (ixE K w (ixE K w (pv 5) (J0 E4 A5)) A5)) A5) (B7 (A0 A8 (A0 A8 A4))) rfl) (CJ (N2 SJ (pv 8) (pv 2) rfl)))))
   (A6 (C5 (i:=12) nd rfl (Or.inl rfl) (B1 BS (hr.mono (by omega)) rfl UN UJ TY .nil B8 (A0 (pv 1) (A0 (pv 5) (A0 (pv 10) (A0 (pv 8) (A0 (pv 2) A4)))))))
   (A6 (D8 (U0 PassesOwn.never rfl (ciZ (K:=K) (B7 (A0 (pv 5) (A0 (pv 6) A4)))) (G4 (i:=13) nd rfl (Or.inl rfl)) (A6 (C0 (M9 (K:=K) PySem.F.plainAttrs_list PySem.F.slot_list_append PySem.F.type_list_append C3 (pv 13) (A0 A8 A4)))
   (A7 (C0 (M9 (K:=K) PySem.F.plainAttrs_list PySem.F.slot_list_append PySem.F.type_list_append C3 (pv 3) (A0 (B7 (A0 (pv 13) (A0 (K0 (X7 (K:=K)) rfl B.list_ N0 (A0 (pv 13) A4)) A4))) A4)))))))
   (A6 (D8 (C8 (PW.pt (X8 (B2 EA (pv 9) N7 rfl) (W0 (B2 SN (G1 (pv 0) RM.cl RM.m_step OR (hr.mono (by omega)) RM.b_step .nil B8) W5 rfl)))) (A7 (B5 W5)) C1))
   (A7 (B5 (B1 E7 (hr.mono (by omega)) rfl G8 G7 G6 .nil B8 (A0 (B1 U9 (hr.mono (by omega)) rfl EI EF EH .nil B8 (A0 (pv 0) (A0 (B4 D1 (pv 4) A5) A4))) (A0 (D4 (A0 (ixE K w (pv 12) A5) (A0 (G1 (pv 10) RC.cl RC.m_told PH (hr.mono (by omega)) RC.b_told .nil B8) (A0 (B4 (M2 (K:=K)) (pv 7) A5) (A0 (B4 (M2 (K:=K)) (pv 8) (K0 VQ rfl hint QA (A0 (pv 11) A4))) (A0 (ixE K w (pv 12) A5) A4)))))) A4)))))))))))), ?_⟩
 obtain⟨cs,frs,f,r,c,row,rfl,hrow,hact⟩:=id hstep
 have hcs:=hsm.cs
 have hfr:=hsm.frs
 have lf0:=hM.f.len
 have lu0:=hM.c.len
 simp only at hcs hfr lf0 lu0 hcm
 rw[length_append,length_singleton]at hfr lf0
 obtain⟨w0,hw0,hwc⟩:=YN row
 refine⟨_,rfl,_,rfl,A,bs,most,_,vb,us,fs,out,bits,rfl,hM,hT,λl lf lc ans H1 k1 hT1 hl hlf hlc nf nc nfc hA1=> ?_⟩
 refine⟨l,_,rfl,SqL.of hl,rfl,_,_,rfl,_,_,rfl,_,_,rfl,_,_,rfl,_,_,rfl,rfl, ?_⟩
 obtain rfl:ans=.non:=hA1
 show M0 _ _ _ [some (.ref A.m),some (.ref bl),some (.int (most:Nat)),some (.ref cp),some (.int bits),some (.ref lf),some (.ref lc),some (.int (r:Nat)),some (.int (c:Nat)),some .non,none,none,none,none] H1
 refine⟨_,rfl,zero_le _,λe he=> .inr ⟨lf,e,_,_,rfl,rfl,SqL.of ((A3 he _) _ _ hlf),SqL.of A2,(by rw[<-lf0];exact Nat.succ_ne_zero _),_,rfl,ifF (by decide) ?_⟩⟩
 have s2:=A3 he (.lst [])
 generalize upd H1 e (.lst [])=H2 at s2⊢
 refine⟨_,rfl,lc,us,rfl,s2 _ _ hlc,by omega,λo L H3 s3 hC3 no nL=> ?_⟩
 show M0 _ _ _ [some (.ref A.m),some (.ref bl),some (.int (most:Nat)),some (.ref cp),some (.int bits),some (.ref lf),some (.ref lc),some (.int (r:Nat)),some (.int (c:Nat)),some .non,some (.ref o),none,none,none] H3
 have s23:=s2.trans s3
 have k3:KPt Pt H H3:=k1.trans (.of s23)
 have m3:=k3.mo hT
 have hT3:=PG.tb_same hT1 s23
 have hM3:=hM.pt hT k3
 have hlf3:=s23 _ _ hlf
 have hlc3:=s23 _ _ hlc
 have hbl3:=k3 _ _ hbl (PG.tb_lst hT hbl)
 have hB3:=hB2.imp λ_ _ z=>BAt.mo m3 z
 obtain⟨bk,hbk,hrw⟩:∃bk,bs[f.k]? =some bk/\bk.rows[f.at_]? =some row:=by
  unfold DB at hrow
  obtain⟨bk,h1,h2⟩:=Option.bind_eq_some_iff.mp hrow
  exact⟨bk,h1,h2⟩
 obtain⟨gs,u,rfl,hG,p,sl,st,rfl,hFr,hsl,hst⟩:=C4 hM3.f
 obtain⟨q0,e0,g1,g2,g3⟩:=id hFr
 obtain⟨u,hu1,tb,rs,ur,rfl,hb1,hb2,hb3,hb4⟩:=E3 hB3 hbk
 obtain⟨v,hv,rwa,rfl,hrwa⟩:=E3 hb3 hrw
 refine⟨fun σ' H'=>∃b:Bool,σ'=[some (.ref A.m),some (.ref bl),some (.int (most:Nat)),some (.ref cp),some (.int bits),some (.ref lf),some (.ref lc),some (.int (r:Nat)),some (.int (c:Nat)),some .non,some (.ref o),some (.bl b),none,none]/\Same H3 H'/\(b=true↔U1 row/\c<most), ?_, ?_⟩
 ·refine⟨_,rfl,_,rfl,_,rfl,(ixL hlf3 (G0 _ _) (ixT g1 rfl (ixL (v:=.ref tb) hbl3 (C9 hu1) (ixT hb1 rfl ⟨_,rfl,_,rfl,(ixL hlf3 (G0 _ _) (ixT g1 rfl (ixT (v:=.ref rwa) hb2 (C9 hv) (ixT (v:=.str w0) hrwa hw0 ⟨z2,λt1 ht1=> .inr (.inl ⟨t1,_,rfl,.inr (SqT.of A2),rfl,rfl,_,rfl, ?_⟩)⟩))))⟩))))⟩
  have s4:=A3 ht1 (.tup [.str "call",.str "apply"])
  by_cases hc:U1 row
  ·refine ifT (hwc.mpr hc) ⟨_,rfl,_,rfl,_,_,rfl,rfl,_,rfl,s4, ?_⟩
   rw[decide_eq_true_iff]
   exact⟨λz=>⟨hc,by omega⟩,λz=>by have:=z.2;omega⟩
  ·exact ifF (λz=>hc (hwc.mp z)) ⟨false,rfl,s4,λz=>(nomatch z),λz=>absurd z.1 hc⟩
 rintro _ H4 ⟨b,rfl,s4,hb⟩
 have m4:=B6 s4
 have hT4:=PG.tb_same hT3 s4
 have nbL:bl≠L:=λz=>by
  have:=s2 _ _ (k1 _ _ hbl (PG.tb_lst hT hbl))
  rw[z,nL]at this;cases this
 have nlL:lf≠L:=λz=>by
  have:=s2 _ _ hlf
  rw[z,nL]at this;cases this
 refine⟨_,rfl,_,rfl,_,rfl,_,rfl,_,rfl,bl,lf,o,L,vb2,us,_,bs,most,cs,frs,f,r,c,row,S',rfl,s4 _ _ hbl3,hB3.imp λ_ _ z=>BAt.mo m4 z,s4 _ _ hlf3,hM3.f.imp λ_ _ z=>FAt.mo m4 z,hC3.same s4,hM3.c.imp λ_ _ z=>ClAt.mo m4 z,hrow,hact,hcm,hcs,hfr,hsm.fr,nbL,nlL,hT4,hval,λtt lf' fs' us' ans' H5 k5 hT5 htt hlf' nlf' hF5 hC5 hU5 hA5=> ?_⟩
 have k15:KPt Pt H1 H5:=λb ob e n=>k5 _ _ (s4 _ _ (s3 _ _ (s2 _ _ e))) n λz=>by
  have:=s2 _ _ e
  rw[z,nL]at this;cases this
 have kH5:KPt Pt H H5:=k1.trans k15
 have hM5:=hM.pt hT kH5
 have hlf5:=k15 _ _ hlf (PG.tb_lst hT1 hlf)
 have hlc5:=k15 _ _ hlc (PG.tb_lst hT1 hlc)
 have hcp5:=kH5 _ _ hcp (PG.tb_lst hT hcp)
 have ncf:cp≠lf:=λz=>by rw[<-z,hcp]at nf;cases nf
 have ncc:cp≠lc:=λz=>by rw[<-z,hcp]at nc;cases nc
 have ownH:∀a∈A.own,H a≠none:=λa ha z=>by
  obtain⟨dxo,ho,hL⟩:=hM.r.o
  simp only[Ad.own,mem_cons,not_mem_nil,or_false]at ha
  rcases ha with h|h|h|h|h<;>rw[h]at z
  ·rw[hM.r.m]at z;cases z
  ·rw[hM.r.bl]at z;cases z
  ·rw[ho]at z;cases z
  ·rw[hL]at z;cases z
  ·rw[hM.r.s]at z;cases z
 have nfo:lf∉A.own:=λz=>ownH _ z nf
 have nco:lc∉A.own:=λz=>ownH _ z nc
 have pfs:(gs++ [V.ref p]).all P0=true:=by
  rw[all_eq_true]
  intro x hx
  obtain⟨i,hi⟩:=getElem?_of_mem hx
  obtain⟨_,_,t,_,_,rfl,_⟩:=hM5.f.get hi
  rfl
 have pus:us.all P0=true:=by
  rw[all_eq_true]
  intro x hx
  obtain⟨i,hi⟩:=getElem?_of_mem hx
  obtain⟨cl,_,hcl⟩:=hM5.c.get hi
  cases cl with
  |pair a b=>obtain⟨t,_,_,rfl,_⟩:=hcl;rfl
  |fn n vs=>obtain⟨t,_,_,rfl,_⟩:=hcl;rfl
 have ownH5:∀a∈A.own,H5 a≠none:=λa ha z=>by
  cases e:H a with
  |none=>exact ownH a ha e
  |some ob=>
   refine absurd z ?_
   rw[kH5 _ _ e λy=> ?_]
   ·exact λz=>(nomatch z)
   ·exact hM.at_.ptn hT (by rw[<-y];exact ha)
 refine⟨fun σ' H'=>∃x13 cps',σ'=[some (.ref A.m),some (.ref bl),some (.int (most:Nat)),some (.ref cp),some (.int bits),some (.ref lf),some (.ref lc),some (.int (r:Nat)),some (.int (c:Nat)),some .non,some (.ref o),some (.bl b),some (.ref tt),x13]/\(∀b ob,H5 b=some ob->b≠lf->b≠lc->b≠cp->H' b=some ob)/\H' cp=some (.lst cps')/\cps'.length=cps.length+2/\(∀u∈cps',CpAt H' (λa=>a∈A.own\/a=cp) u), ?_, ?_⟩
 ·refine⟨_,rfl,_,rfl,z2,λtp htp=>⟨tp,rfl,⟨_,SqT.of A2⟩, ?_⟩⟩
  have s6:=A3 htp (.tup [.ref lf,.ref lc])
  have htp6:upd H5 tp (.tup [.ref lf,.ref lc]) tp=some (.tup [.ref lf,.ref lc]):=A2
  generalize upd H5 tp (.tup [.ref lf,.ref lc])=H6 at s6 htp6⊢
  have ownH6:∀a∈A.own,H6 a≠none:=λa ha z=>ownH5 a ha (s6.free z)
  have ntp:tp≠lf/\tp≠lc/\tp≠cp:=⟨λz=>(by rw[z,hlf5]at htp;cases htp),λz=>(by rw[z,hlc5]at htp;cases htp),λz=>(by rw[z,hcp5]at htp;cases htp)⟩
  refine aEZ (xs:=[.ref lf,.ref lc]) (λi σ' H'=>∃x13 cps',σ'=[some (.ref A.m),some (.ref bl),some (.int (most:Nat)),some (.ref cp),some (.int bits),some (.ref lf),some (.ref lc),some (.int (r:Nat)),some (.int (c:Nat)),some .non,some (.ref o),some (.bl b),some (.ref tt),x13]/\(∀b ob,H6 b=some ob->b≠lf->b≠lc->b≠cp->H' b=some ob)/\H' cp=some (.lst cps')/\cps'.length=cps.length+i/\(i<=0->H' lf=some (.lst (gs++ [.ref p])))/\(i<=1->H' lc=some (.lst us))/\(∀u∈cps',CpAt H' (λa=>a∈A.own\/a=cp\/(i<=0/\a=lf)\/(i<=1/\a=lc)) u)) ?_ ?_ ?_ ?_
  ·refine⟨none,cps,rfl,λb ob e _ _ _=>e,s6 _ _ hcp5,rfl,λ_=>s6 _ _ hlf5,λ_=>s6 _ _ hlc5,λu hu=> ?_⟩
   obtain⟨t,a,b,xs,rfl,h1,h2,h3,h4,na,nb⟩:=hcps u hu
   have g:∀ {x:Addr},H x=some (.lst xs)->¬(x∈A.own\/x=cp)->¬(x∈A.own\/x=cp\/(0<=0/\x=lf)\/(0<=1/\x=lc)):=λ{x} hx nx z=>by
    rcases z with z|z|z|z
    ·exact nx (.inl z)
    ·exact nx (.inr z)
    ·rw[z.2,nf]at hx;cases hx
    ·rw[z.2,nc]at hx;cases hx
   exact⟨t,a,b,xs,rfl,s6 _ _ (kH5 _ _ h1 (PG.tb_tup hT h1)),s6 _ _ (kH5 _ _ h2 (PG.tb_lst hT h2)),s6 _ _ (kH5 _ _ h3 (PG.tb_lst hT h3)),h4,g h2 na,g h3 nb⟩
  ·rintro i σ' H' _ ⟨x13,cps',rfl,kk,_⟩
   exact SqT.of (kk _ _ htp6 ntp.1 ntp.2.1 ntp.2.2)
  ·rintro i x σ' H' hx ⟨x13,cps',rfl,kk,hcp',hlen,h0,h1,hall⟩
   obtain⟨y,ys,rfl,hy,hyl,hyp,hyo,hyc,hX⟩:∃y ys,x=.ref y/\H' y=some (.lst ys)/\ys.length<=600/\ys.all P0=true/\y∉A.own/\y≠cp/\((i=0/\y=lf)\/(i=1/\y=lc)):=by
    match i,hx with
    |0,hx=>cases hx;exact⟨lf,_,rfl,h0 (le_refl _),by rw[<-lf0];omega,pfs,nfo,Ne.symm ncf,.inl ⟨rfl,rfl⟩⟩
    |1,hx=>cases hx;exact⟨lc,_,rfl,h1 (le_refl _),by omega,pus,nco,Ne.symm ncc,.inr ⟨rfl,rfl⟩⟩
    |i+2,hx=>simp at hx
   have hi1:i<=1:=by rcases hX with h|h<;>omega
   refine⟨_,rfl,.inl ⟨rfl,_,SqL.of hy⟩,y,ys,.str "spoilt",rfl,rfl,hy,PG.big_ _ (by omega), ?_⟩
   have hcpa:upd H' y (.lst (ys++ [.str "spoilt"])) cp=some (.lst cps'):=by rw[B0 (Ne.symm hyc)];exact hcp'
   refine⟨_,rfl,.inl ⟨rfl,_,SqL.of hcpa⟩,_,rfl,_,rfl,y,_,rfl,.inl (SqL.of A2),λl2 hl2=>⟨z2,λt2 ht2=> ?_⟩⟩
   have sa:=A3 hl2 (.lst (ys++ [.str "spoilt"]))
   have sb:=A3 ht2 (.tup [.ref y,.ref l2])
   have sab:=sa.trans sb
   have hl2':H' l2=none:=by
    rw[B0 λz=>by rw[z,A2]at hl2;cases hl2]at hl2
    exact hl2
   have l2y:l2≠y:=λz=>by rw[z,hy]at hl2';cases hl2'
   have l2c:l2≠cp:=λz=>by rw[z,hcp']at hl2';cases hl2'
   have t2c:t2≠cp:=λz=>by rw[z,sa _ _ hcpa]at ht2;cases ht2
   have yy:=sab _ _ (A2 (H:=H') (a:=y) (o:=.lst (ys++ [.str "spoilt"])))
   have ll:=sb _ _ (A2 (H:=upd H' y (.lst (ys++ [.str "spoilt"]))) (a:=l2) (o:=.lst (ys++ [.str "spoilt"])))
   have tt2:=A2 (H:=upd (upd H' y (.lst (ys++ [.str "spoilt"]))) l2 (.lst (ys++ [.str "spoilt"]))) (a:=t2) (o:=.tup [.ref y,.ref l2])
   have keep:∀ {b ob},H' b=some ob->b≠y->b≠cp->upd (upd (upd (upd H' y (.lst (ys++ [.str "spoilt"]))) l2 (.lst (ys++ [.str "spoilt"]))) t2 (.tup [.ref y,.ref l2])) cp (.lst (cps'++ [.ref t2])) b=some ob:=λ{b ob} e n1 n2=>by
    rw[B0 n2]
    exact sab _ _ (by rw[B0 n1];exact e)
   refine⟨cp,cps',.ref t2,rfl,rfl,sab _ _ hcpa,PG.big_ _ (by omega), ?_⟩
   refine⟨_,cps'++ [.ref t2],rfl,λb ob e n1 n2 n3=>keep (kk _ _ e n1 n2 n3) (by rcases hX with h|h<;>rw[h.2]<;>assumption) n3,A2,by rw[length_append,hlen];rfl,λz=>absurd z (not_succ_le_zero _),λz=> ?_,λu hu=> ?_⟩
   ·have hi0:i=0:=by omega
    rcases hX with h|h
    ·exact keep (h1 (by omega)) (by rw[h.2];exact Ne.symm nfc) (Ne.symm ncc)
    ·exact absurd h.1 (by omega)
   ·rcases mem_append.mp hu with hu|hu
    ·obtain⟨t,a,b,xs,rfl,e1,e2,e3,e4,na,nb⟩:=hall u hu
     have ny:∀ {x:Addr},¬(x∈A.own\/x=cp\/(i<=0/\x=lf)\/(i<=1/\x=lc))->x≠y:=λ{x} nx z=>by
      rcases hX with h|h
      ·exact nx (.inr (.inr (.inl ⟨by omega,z.trans h.2⟩)))
      ·exact nx (.inr (.inr (.inr ⟨by omega,z.trans h.2⟩)))
     have nx':∀ {x:Addr},¬(x∈A.own\/x=cp\/(i<=0/\x=lf)\/(i<=1/\x=lc))->¬(x∈A.own\/x=cp\/(i+1<=0/\x=lf)\/(i+1<=1/\x=lc)):=λ{x} nx z=>nx (by
      rcases z with z|z|z|z
      ·exact .inl z
      ·exact .inr (.inl z)
      ·exact absurd z.1 (not_succ_le_zero _)
      ·exact .inr (.inr (.inr ⟨hi1,z.2⟩)))
     exact⟨t,a,b,xs,rfl,keep e1 (λz=>by rw[z,hy]at e1;cases e1) (λz=>by rw[z,hcp']at e1;cases e1),keep e2 (ny na) (λz=>na (.inr (.inl z))),keep e3 (ny nb) (λz=>nb (.inr (.inl z))),e4,nx' na,nx' nb⟩
    ·rw[sZ hu]
     have al:(ys++ [V.str "spoilt"]).all P0=true:=by rw[List.all_append,hyp];rfl
     refine⟨t2,y,l2,_,rfl,by rw[B0 t2c];exact tt2,by rw[B0 hyc];exact yy,by rw[B0 l2c];exact ll,al,λz=> ?_,λz=> ?_⟩
     ·rcases z with z|z|z|z
      ·exact hyo z
      ·exact hyc z
      ·exact absurd z.1 (not_succ_le_zero _)
      ·rcases hX with h|h
       ·exact nfc (h.2.symm.trans z.2)
       ·exact absurd z.1 (by omega)
     ·rcases z with z|z|z|z
      ·have:H6 l2=none:=by
        cases e:H6 l2 with
        |none=>rfl
        |some ob=>
         rw[kk _ _ e (λy=>nfo (by rw[<-y];exact z)) (λy=>nco (by rw[<-y];exact z)) l2c]at hl2';cases hl2'
       exact ownH6 l2 z this
      ·exact l2c z
      ·exact absurd z.1 (not_succ_le_zero _)
      ·rw[z.2,h1 hi1]at hl2';cases hl2'
  ·rintro σ' H' ⟨x13,cps',rfl,kk,hcp',hlen,_,_,hall⟩
   refine⟨x13,cps',rfl,λb ob e n1 n2 n3=>kk _ _ (s6 _ _ e) n1 n2 n3,hcp',hlen,λu hu=> ?_⟩
   obtain⟨t,a,b,xs,rfl,e1,e2,e3,e4,na,nb⟩:=hall u hu
   exact⟨t,a,b,xs,rfl,e1,e2,e3,e4,λz=>na (z.imp id .inl),λz=>nb (z.imp id .inl)⟩
 rintro _ H7 ⟨x13,cps',rfl,k7,hcp7,hlen7,hall7⟩
 have hX5:∀b,(b=lf\/b=lc\/b=cp)->∃xs,H5 b=some (.lst xs):=λb z=>by
  rcases z with z|z|z<;>rw[z]
  ·exact⟨_,hlf5⟩
  ·exact⟨_,hlc5⟩
  ·exact⟨_,hcp5⟩
 have k7':∀b ob,H5 b=some ob->¬(b=lf\/b=lc\/b=cp)->H7 b=some ob:=λb ob e n=>k7 _ _ e (λz=>n (.inl z)) (λz=>n (.inr (.inl z))) λz=>n (.inr (.inr z))
 have hM7:=hM5.keep k7' (λa ha z=>by
  rcases z with z|z|z<;>rw[z]at ha
  ·exact nfo ha
  ·exact nco ha
  ·exact ncp ha) hX5
 have hT7:=MO hT5 k7' hX5
 have m57:Mo H5 H7:=λb xs e=>k7' _ _ e λz=>by
  obtain⟨ys,e'⟩:=hX5 b z
  rw[e]at e';cases e'
 refine⟨fun σ' H'=>∃A',σ'=[some (.ref A.m),some (.ref bl),some (.int (most:Nat)),some (.ref cp),some (.int bits),some (.ref lf),some (.ref lc),some (.int (r:Nat)),some (.int (c:Nat)),some .non,some (.ref o),some (.bl b),some (.ref tt),x13]/\New A A' H7/\Kq A H7 H'/\MAt CM C H' A' bs most S',⟨_,rfl,rfl,_,rfl,ifF (by decide) ⟨_,rfl,A.m,A.dx,_,rfl,hM7.r.m,rfl,A,bs,most,_,rfl,hM7.at_,hsm,.inr ⟨S',hstep,λA' H8 nw8 kq8 hA8=>⟨true,true,rfl,rfl,_,rfl,ifF (by decide) ⟨A',rfl,nw8,kq8,hA8⟩⟩⟩⟩⟩, ?_⟩
 rintro _ H8 ⟨A',rfl,nw8,kq8,hA8⟩
 obtain⟨vb8,us8,fs8,out8,hr8,hb8,hc8,hf8,ho8⟩:=hA8.ex
 have hM8:MD CM C H8 A' bs most S' vb8 us8 fs8 out8:=⟨hr8,hb8,hc8,hf8,ho8,hval⟩
 have hT8:Tb H8 Pt:=hM7.at_.tab kq8 hT7
 have m78:Mo H7 H8:=hM7.r.mo kq8
 refine⟨_,rfl,_,rfl,_,_,rfl,rfl,lg (by decide) (by decide),A',bs,most,S',vb8,us8,fs8,out8,_,(by rw[nw8.1];rfl),hM8,hT8,λl2 lf2 lc2 ans2 H9 k9 hT9 hl2 hlf2 hlc2 _ _ _ hA9=> ?_⟩
 have m89:=k9.mo hT8
 have m59:Mo H5 H9:=λb xs e=>m89 _ _ (m78 _ _ (m57 _ _ e))
 have l59:∀b ob,H5 b=some ob->b≠lf->b≠lc->b≠cp->b∉A.own->b≠Pt->H9 b=some ob:=λb ob e n1 n2 n3 n4 n5=>k9 _ _ (kq8 _ _ (k7 _ _ e n1 n2 n3) n4) n5
 have k2H:KPt Pt H H2:=k1.trans (.of s2)
 have hT2:=PG.tb_same hT1 s2
 have nw2:∀b ob,H2 b=none->H5 b=some ob->H9 b=some ob:=λb ob n e=>
  l59 b ob e (λz=>by rw[z,s2 _ _ hlf]at n;cases n) (λz=>by rw[z,s2 _ _ hlc]at n;cases n) (λz=>by rw[z,k2H _ _ hcp (PG.tb_lst hT hcp)]at n;cases n) (λz=>ownH b z (k2H.free n (BC hT2 n))) (BC hT2 n)
 have f42:∀b,H4 b=none->H2 b=none:=λb z=>(s3.trans s4).free z
 have htt9:=m59 _ _ htt
 have hlf9:=nw2 _ _ (f42 _ nlf') hlf'
 obtain⟨dxo,hoo,hLL⟩:=id hC5
 have ho9:=nw2 _ _ no hoo
 have hC9:CAt C H9 o L us':=⟨dxo,ho9,nw2 _ _ nL hLL⟩
 have hA9':=hA5.keep m59 λa xs n e=>nw2 _ _ (f42 _ n) e
 refine⟨_,rfl,(ixT htt9 rfl ⟨_,rfl,o,dxo,_,rfl,ho9,rfl,o,L,us',rfl,hC9,λl3 hl3=> ?_⟩)⟩
 have s10:=A3 hl3 (.lst us')
 refine⟨_,rfl,.inl ⟨_,_,rfl,rfl,_,rfl,_,rfl,.inr ⟨b,rfl,.inl ⟨_,_,rfl,rfl,_,rfl,(ixT (s10 _ _ htt9) rfl ⟨(by decide:5<=sizeLine),λl4 hl4=> ?_⟩)⟩⟩⟩⟩
 have s11:=A3 hl4 (.lst [.ref lf',.ref l3,.int ((r:Nat)+1),.int ((c:Nat)+if b=true then 1 else 0),ans'])
 have sB:=s10.trans s11
 have mB:=B6 sB
 have m8B:Mo H8 _:=λb xs e=>mB _ _ (m89 _ _ e)
 have m5B:Mo H5 _:=λb xs e=>mB _ _ (m59 _ _ e)
 have l5:=hF5.len
 have lu5:=hU5.len
 have sf':=hsm'.frs
 have sc':=hsm'.cs
 have lf8:=hf8.len
 have lc8:=hc8.len
 have e3:V.int (S'.r:Nat)=.int ((r:Nat)+1):=congrArg V.int (by rw[c2Z hact];omega)
 have e4:V.int (S'.c:Nat)=.int ((c:Nat)+if b=true then 1 else 0):=congrArg V.int (by rw[dyZ hact b hb];cases b<;>simp)
 refine⟨.ref l2,.ref l4,rfl, ?_,λH12 s12=> ?_⟩
 ·refine PG.dq_lst (sB _ _ hl2) A2 (by show 5<=1000;omega) (.cons ?_ (.cons ?_ (.cons ?_ (.cons ?_ (.cons ?_ .nil)))))
  ·exact PG.dq_lst (sB _ _ hlf2) (sB _ _ hlf9) (by omega) (GB hsm'.fr (hf8.imp λ_ _ z=>FAt.mo m8B z) (hF5.imp λ_ _ z=>FAt.mo m5B z))
  ·exact PG.dq_lst (sB _ _ hlc2) (s11 _ _ A2) (by omega) (CU (R:=ClAt _) (λ_ _ _ a b=>cWZ a b) (hc8.imp λ_ _ z=>ClAt.mo m8B z) (hU5.imp λ_ _ z=>ClAt.mo m5B z))
  ·rw[e3];exact PG.dq_sc rfl _
  ·rw[e4];exact PG.dq_sc rfl _
  ·exact QD hval (hA9.ml ⟨mB,λb xs e=>sB _ _ e⟩) (hA9'.ml ⟨mB,λb xs e=>sB _ _ e⟩)
 ·have sC:=sB.trans s12
  have kC:KPt Pt H8 H12:=k9.trans (.of sC)
  have hT12:=PG.tb_same hT9 sC
  have fr7:∀x,H7 x=none->H x=none:=λx z=>by
   cases e:H x with
   |none=>rfl
   |some ob=>
    exfalso
    have e5:=kH5 _ _ e (BC hT7 z)
    by_cases y:x=cp
    ·rw[y,hcp7]at z;cases z
    ·rw[k7 _ _ e5 (λy=>by rw[y,nf]at e;cases e) (λy=>by rw[y,nc]at e;cases e) y]at z;cases z
  refine q A' cps' H12 ⟨nw8.1,λx hx=>(nw8.2 x hx).imp id (fr7 x)⟩ (λb ob e n1 n2 n3=> ?_) hT12 (hM8.pt hT8 kC).at_ (kC _ _ (kq8 _ _ hcp7 ncp) (PG.tb_lst hT7 hcp7)) hlen7 λu hu=> ?_
  ·exact kC _ _ (kq8 _ _ (k7 _ _ (kH5 _ _ e n2) (λy=>by rw[y,nf]at e;cases e) (λy=>by rw[y,nc]at e;cases e) n3) n1) n2
  ·obtain⟨t,a,b',xs,rfl,h1,h2,h3,h4,na,nb⟩:=hall7 u hu
   have g:∀ {x:Addr},H7 x=some (.lst xs)->¬(x∈A.own\/x=cp)->¬(x∈A'.own\/x=cp):=λ{x} hx nx z=>by
    rcases z with z|z
    ·rcases nw8.2 x z with y|y
     ·exact nx (.inl y)
     ·rw[hx]at y;cases y
    ·exact nx (.inr z)
   exact⟨t,a,b',xs,rfl,kC _ _ (m78 _ _ h1) (PG.tb_tup hT7 h1),kC _ _ (kq8 _ _ h2 λz=>na (.inl z)) (PG.tb_lst hT7 h2),kC _ _ (kq8 _ _ h3 λz=>nb (.inl z)) (PG.tb_lst hT7 h3),h4,g h2 na,g h3 nb⟩
end
end LR
namespace LR
open PySem L2 CL SW MC MT
open K67 (DqS)
open BV hiding ifT ifF NoG top
seal PE PT PW PA PS PSs PTs PI L2.PG PGs PO
noncomputable abbrev s_law_copied:Stmt:=CL.top 52
noncomputable abbrev V9:List Str:=["_law_thing"]
theorem sc_law_copied:FnScope V9 PN (A9 s_law_copied):=fS
section
variable{P:Program}{w:World}{K:FZ}{mg:Str->Option Value}{base:Heap}{f:Addr}{fd:FuncData}
inductive spCopiedW(n:Nat)(vs:List V)(H:Hp)(Q:VK):Prop
 |mk:∀x,(vs=[x])->(DqS H n x x)->(∀y H',Same H H'->DqS H' n x y->Q y H')->spCopiedW n vs H Q
noncomputable def X6(n:Nat):Sp:=λvs H Q _=>spCopiedW n vs H Q
theorem BE{n:Nat}{sp:Sp}(F:Fun K "_law_copied" "_law_copied" s_law_copied f fd)(B:NoG mg)(O0:FnOk P w K mg base CX0 n f fd PN sp)(hsp:∀m,n=m+1->sp=X6 m)
  (K5:Binds K fd PN [])(K6:kZ K (.ref f)=true)(K7:mg "_law_copied"=some (.ref f)):FnOk P w K mg base CX0 (n+1) f fd PN (X6 n):=by
 refine F.ok sc_law_copied (λvs H Q E h=> ?_) (λcdv A outer s H vs Q E hr h=> ?_)
 ·obtain⟨x,rfl,_⟩:=h
  rfl
 obtain⟨x,rfl,hd,q⟩:=h
 have nd:=sc_law_copied.nd
 have hu:=hr.units0
 have zz:(2000:Nat)<=sizeLine:=by decide
 refine⟨_,(A6 (C8 (N1 (K:=K) (B9 (S4 (K:=K)) rfl B.isinstance_ D3 (A0 (pv 0) (A0 (K8 (v:=.ty "list") rfl B.list_ N0 rfl) A4))) (λ_=>rfl)) (A7 (B5 (Z3 (cS (N:=V9) (sc:=A9 s_law_copied) (caps:=[]) (ns:=[])) rfl rfl rfl (XR (K:=K) (pv 0)) (λ_ _ _ _ _=>R5) (λ_ _ _ _ _=>(B1 O0 (hr.mono (by omega)) rfl K7 K6 K5 .nil B8 (A0 (pv 0) A4)))))) C1)
   (A6 (C8 (N1 (K:=K) (B9 (S4 (K:=K)) rfl B.isinstance_ D3 (A0 (pv 0) (A0 (K8 (v:=.ty "tuple") rfl B.tuple_ P4 rfl) A4))) (λ_=>rfl)) (A7 (B5 (K0 (ED (K:=K)) rfl B.tuple_ P4 (A0 (Z3 (cS (N:=V9) (sc:=A9 s_law_copied) (caps:=[]) (ns:=[])) rfl rfl rfl (XR (K:=K) (pv 0)) (λ_ _ _ _ _=>R5) (λ_ _ _ _ _=>(B1 O0 (hr.mono (by omega)) rfl K7 K6 K5 .nil B8 (A0 (pv 0) A4)))) A4)))) C1)
   (A7 (B5 (pv 0))))), ?_⟩
 have hd2:Z6 x=true\/∃a xs m,x=.ref a/\n=m+1/\xs.length<=1000/\All2 (DqS H m) xs xs/\(H a=some (.tup xs)\/H a=some (.lst xs)):=by
  cases n with
  |zero=>exact .inl hd.1
  |succ m=>
   rcases hd with hd|⟨a,b,xs,ys,rfl,e,⟨ha,hb⟩|⟨ha,hb⟩,hl,hA⟩
   ·exact .inl hd.1
   ·cases e
    rw[ha]at hb
    cases hb
    exact .inr ⟨a,xs,m,rfl,rfl,hl,hA,.inl ha⟩
   ·cases e
    rw[ha]at hb
    cases hb
    exact .inr ⟨a,xs,m,rfl,rfl,hl,hA,.inr ha⟩
 rcases hd2 with hs|⟨a,xs,m,rfl,rfl,hl,hA,hab⟩
 ·obtain⟨t,h1,h2⟩:=NF (K:=K) (H:=H) hs
  exact⟨_,rfl,_,_,_,_,rfl,h1,h2.li,_,rfl,ifF nZ ⟨_,rfl,_,_,_,_,rfl,h1,h2.tu,_,rfl,ifF nZ ⟨_,rfl,q x H (Same.refl _) (PG.dq_sc hs n)⟩⟩⟩
 obtain rfl:=hsp m rfl
 have step:∀(i:Nat) (x:V) (zs:List V) (H1:Hp),xs[i]? =some x->(Same H H1/\All2 (DqS H1 m) (xs.take i) zs)->X6 m [x] H1 (λy H2=>Same H H2/\All2 (DqS H2 m) (xs.take (i+1)) (zs++ [y])) E:=by
  rintro i x zs H1 hx ⟨s1,hz⟩
  obtain⟨x',hx',hv⟩:=hA.get hx
  rw[hx]at hx'
  cases hx'
  refine⟨x,rfl,DqS.mono s1 _ hv,λy H2 s2 hy=>⟨s1.trans s2, ?_⟩⟩
  rw[take_succ,hx]
  exact(hz.imp λ_ _ z=>DqS.mono s2 _ z).app (.cons hy .nil)
 rcases hab with ha|ha
 ·refine⟨_,rfl,_,_,_,_,rfl,.tup ha,XE,_,rfl,ifF nZ ⟨_,rfl,_,_,_,_,rfl,.tup ha,QM,_,rfl,ifT rfl ?_⟩⟩
  refine⟨_,rfl,.inr ⟨a,rfl,⟨_,SqT.of ha⟩,WU (xs:=xs) (λi zs H1=>Same H H1/\All2 (DqS H1 m) (xs.take i) zs) ⟨Same.refl _,.nil⟩ ?_ ?_ ?_⟩⟩
  ·rintro i zs H1 hi ⟨s1,hz⟩
   have:=hz.len
   rw[length_take]at this
   exact⟨SqT.of (s1 _ _ ha),by omega⟩
  ·rintro i x zs H1 hx hP
   exact CK ⟨_,rfl,step i x zs H1 hx hP⟩
  ·rintro zs H1 ⟨s1,hz⟩ D hD
   rw[take_length]at hz
   have sD:=A3 hD (.lst zs)
   refine⟨D,_,rfl,.inl ⟨SqL.of A2,λt ht=> ?_⟩⟩
   have sT:=A3 ht (.tup zs)
   have sA:=s1.trans (sD.trans sT)
   exact q _ _ sA (PG.dq_tup (sA _ _ ha) A2 hl (hz.imp λ_ _ z=>DqS.mono (sD.trans sT) _ z))
 ·refine⟨_,rfl,_,_,_,_,rfl,.lst ha,KB,_,rfl,ifT rfl ?_⟩
  refine⟨_,rfl,.inl ⟨a,rfl,⟨_,SqL.of ha⟩,CP (xs:=xs) (λi zs H1=>Same H H1/\All2 (DqS H1 m) (xs.take i) zs) ⟨Same.refl _,.nil⟩ ?_ ?_ ?_⟩⟩
  ·rintro i zs H1 hi ⟨s1,hz⟩
   have:=hz.len
   rw[length_take]at this
   exact⟨SqL.of (s1 _ _ ha),by omega⟩
  ·rintro i x zs H1 hx hP
   exact CK ⟨_,rfl,step i x zs H1 hx hP⟩
  ·rintro zs H1 ⟨s1,hz⟩ D hD
   rw[take_length]at hz
   have sD:=A3 hD (.lst zs)
   exact q _ _ (s1.trans sD) (PG.dq_lst ((s1.trans sD) _ _ ha) A2 hl (hz.imp λ_ _ z=>DqS.mono sD _ z))
theorem ok_law_copied(F:Fun K "_law_copied" "_law_copied" s_law_copied f fd)(B:NoG mg)
  (K5:Binds K fd PN [])(K6:kZ K (.ref f)=true)(K7:mg "_law_copied"=some (.ref f)):∀n,FnOk P w K mg base CX0 (n+1) f fd PN (X6 n)
 |0=>BE (sp:=RD) F B SG (λm h=>nomatch h) K5 K6 K7
 |n+1=>BE F B (ok_law_copied F B K5 K6 K7 n) (λm h=>by injection h with h;rw[h]) K5 K6 K7
end
end LR
namespace LR
open PySem L2 CL SW MC MT
open K67 (lg P1 DqS)
open PG (z1 z2 z3)
open BV hiding ifT ifF NoG top
seal PE PT PW PA PS PSs PTs PI L2.PG PGs PO
noncomputable abbrev s_law_over:Stmt:=CL.top 53
noncomputable abbrev QY:List Str:=["_law_machine","_law_done","_law_first","_law_kept","_law_spoilt","_law_one"]
theorem sc_law_over:FnScope QY ["_law_machine"] (A9 s_law_over):=fS
noncomputable def bIZ(H0 H:Hp)(x:V):Prop:=Z6 x=true\/∃a rs,x=.ref a/\H a=some (.lst rs)/\H0 a=none/\rs.length<=200/\((∀y∈rs,Z6 y=true)\/∀y∈rs,∃b ys,y=.ref b/\H b=some (.lst ys)/\H0 b=none/\b≠a/\ys.length<=200)
theorem RV{ok:Addr->Prop}{H:Hp}{p:PL.Pv}{r:V}(h:PG.Ip p)(hr:(PL.R ok H p).1 r):Z6 r=true:=by
 rcases h with⟨i,rfl⟩|⟨b,rfl⟩
 ·have e:r=.int i:=hr
  rw[e];rfl
 ·have e:r=.bl b:=hr
  rw[e];rfl
theorem QB{ok:Addr->Prop}{H:Hp}{N:Nat}{G:PL.Pv->Prop}{p:PL.Pv}{r:V}(h:PG.Lp N G p)(hr:(PL.R ok H p).1 r):∃a rs,r=.ref a/\H a=some (.lst rs)/\ok a/\rs.length<=N/\All2 (λt r=>(PL.R ok H t).1 r) (PL.heads p) rs:=by
 have hl:=h.2.1
 rcases h.1 with rfl|⟨x,t,rfl⟩
 ·obtain⟨a,e,ha,o⟩:=hr
  exact⟨a,[],e,ha,o,zero_le _,.nil⟩
 ·obtain⟨a,r1,rs,e,ha,o,h2,h3⟩:=hr
  have hA:All2 (λt r=>(PL.R ok H t).1 r) (PL.heads (.cons x t)) (r1::rs):=.cons h2 (PL.R.items h3)
  exact⟨a,r1::rs,e,ha,o,by rw[<-hA.len];exact hl,hA⟩
theorem auZ{H0 H:Hp}{S:Ms}{u:V}(hv:FD S)(ho:S.out≠none)(h:AnsV H0 H S u):∃p xs x,u=.ref p/\H p=some (.tup (xs++ [x]))/\bIZ H0 H x:=by
 unfold AnsV at h
 cases e:S.out with
 |none=>exact absurd e ho
 |some o=>
  rw[e]at h
  cases o with
  |value x=>
   obtain⟨t0,ht0,_,k,hk⟩:=hv x e
   obtain⟨t,p,r,ht,rfl,hp,hr⟩:=h
   have e1:=PG.vra_uniq ht0 ht
   subst e1
   refine⟨p,[.str "value"],r,rfl,hp, ?_⟩
   cases k with
   |n=>exact .inl (RV hk hr)
   |t=>exact .inl (RV hk hr)
   |l=>
    obtain⟨a,rs,e2,ha,hn,hl,hA⟩:=QB hk hr
    refine .inr ⟨a,rs,e2,ha,hn,hl,.inl λy hy=> ?_⟩
    obtain⟨i,hi⟩:=getElem?_of_mem hy
    obtain⟨q,hq,hR⟩:=hA.get hi
    exact RV (hk.2.2 q (mem_of_getElem? hq)) hR
   |L=>
    obtain⟨a,rs,e2,ha,hn,hl,hA⟩:=QB hk hr
    refine .inr ⟨a,rs,e2,ha,hn,hl,.inr λy hy=> ?_⟩
    obtain⟨i,hi⟩:=getElem?_of_mem hy
    obtain⟨q,hq,hR⟩:=hA.get hi
    have hq':=hk.2.2 q (mem_of_getElem? hq)
    obtain⟨b,ys,e3,hb,hnb,hlb,hB⟩:=QB hq' hR
    refine⟨b,ys,e3,hb,hnb,λz=> ?_,hlb⟩
    rw[z,ha]at hb
    cases hb
    obtain⟨q2,hq2,hR2⟩:=hB.get hi
    have:=RV (hq'.2.2 q2 (mem_of_getElem? hq2)) hR2
    rw[e3]at this
    cases this
   |F=>exact hk.elim
   |fn k=>exact hk.elim
  |refused w=>
   obtain⟨p,rfl,hp⟩:=h
   exact⟨p,[.str "refused"],.str w,rfl,hp,.inl rfl⟩
  |dry=>
   obtain⟨p,rfl,hp⟩:=h
   exact⟨p,[],.str "dry",rfl,hp,.inl rfl⟩
  |deep=>
   obtain⟨p,rfl,hp⟩:=h
   exact⟨p,[],.str "deep",rfl,hp,.inl rfl⟩
theorem XD{H H':Hp}(m:ML H H'):∀(n:Nat) {x y:V},DqS H n x y->DqS H' n x y
 |0,_,_,h=>h
 |n+1,_,_,h=>by
  rcases h with h|⟨a,b,xs,ys,e1,e2,h,hl,hA⟩
  ·exact .inl h
  ·refine .inr ⟨a,b,xs,ys,e1,e2, ?_,hl,hA.imp λ_ _ z=>XD m n z⟩
   rcases h with⟨h1,h2⟩|⟨h1,h2⟩
   ·exact .inl ⟨m.1 _ _ h1,m.1 _ _ h2⟩
   ·exact .inr ⟨m.2 _ _ h1,m.2 _ _ h2⟩
theorem KG{R:V->V->Prop}(t:∀x y z,R x y->R y z->R x z):∀ {xs ys zs:List V},All2 R xs ys->All2 R ys zs->All2 R xs zs
 | [],_,_,h1,h2=>by cases h1;cases h2;exact .nil
 |x::xs,_,_,h1,h2=>by
  cases h1 with
  |cons a1 a2=>
   cases h2 with
   |cons b1 b2=>exact .cons (t _ _ _ a1 b1) (KG t a2 b2)
theorem PR{H:Hp}:∀(n:Nat) {x y z:V},DqS H n x y->DqS H n y z->DqS H n x z
 |0,_,_,_,h1,h2=>⟨h1.1,h1.2.trans h2.2⟩
 |n+1,x,y,z,h1,h2=>by
  rcases h1 with h1|⟨a,b,xs,ys,e1,e2,h,hl,hA⟩
  ·rw[h1.2];exact h2
  ·rcases h2 with h2|⟨b',c,ys',zs,e3,e4,h',hl',hB⟩
   ·rw[<-h2.2];exact .inr ⟨a,b,xs,ys,e1,e2,h,hl,hA⟩
   ·rw[e2]at e3
    cases e3
    rcases h with⟨p1,p2⟩|⟨p1,p2⟩<;>rcases h' with⟨p3,p4⟩|⟨p3,p4⟩<;>rw[p2]at p3<;>cases p3
    ·exact .inr ⟨a,c,xs,zs,e1,e4,.inl ⟨p1,p4⟩,hl,KG (R:=DqS H n) (λ_ _ _ a b=>PR n a b) hA hB⟩
    ·exact .inr ⟨a,c,xs,zs,e1,e4,.inr ⟨p1,p4⟩,hl,KG (R:=DqS H n) (λ_ _ _ a b=>PR n a b) hA hB⟩
theorem EB{CM C Pt:Addr}{H:Hp}{A:Ad}{bs:List Bk}{most:Nat}{S:Ms}{vb us fs:List V}{out:V}{Q:VK}{X:XK}(hM:MD CM C H A bs most S vb us fs out)(hT:Tb H Pt)(q:∀u H',KPt Pt H H'->Tb H' Pt->AnsV H H' S u->Q u H'):Y4 CM C Pt [.ref A.m] H Q X:=by
 refine⟨A,bs,most,S,rfl,hM.at_, ?_⟩
 cases e:S.out with
 |none=>
  refine .inr ⟨rfl,λu hu=>q _ _ (.refl _ _) hT ?_⟩
  unfold AnsV
  rw[e];exact hu
 |some o=>
  cases o with
  |value x=>
   obtain⟨t,ht,hsz,_⟩:=hM.v x e
   refine .inl ⟨x,t,rfl,ht,hsz,hT,λp r H1 H' k1 hT1 hR hp eH=> ?_⟩
   subst eH
   have s1:=A3 hp (.tup [.str "value",r])
   refine q _ _ (KPt.trans k1 (.of s1)) (PG.tb_same hT1 s1) ?_
   unfold AnsV
   rw[e]
   exact⟨t,p,r,ht,rfl,A2,(PL.R.mono λa xs ho e=>⟨s1 _ _ e,ho⟩).1 hR⟩
  |refused w0=>
   refine .inr ⟨rfl,λu hu=>q _ _ (.refl _ _) hT ?_⟩
   unfold AnsV
   rw[e];exact hu
  |dry=>
   refine .inr ⟨rfl,λu hu=>q _ _ (.refl _ _) hT ?_⟩
   unfold AnsV
   rw[e];exact hu
  |deep=>
   refine .inr ⟨rfl,λu hu=>q _ _ (.refl _ _) hT ?_⟩
   unfold AnsV
   rw[e];exact hu
section
variable{P:Program}{w:World}{K:FZ}{mg:Str->Option Value}{base:Heap}{CM C Pt f JA R7:Addr}{gf mf:Str->Addr}{gd md:Str->FuncData}{fd IM R8:FuncData}
inductive spOverW(CM C Pt:Addr)(vs:List V)(H:Hp)(Q:VK):Prop
 |mk:∀(A:Ad) (bs:List Bk) (most:Nat) (S:Ms) (vb us fs:List V) (out:V),(vs=[.ref A.m])->(MD CM C H A bs most S vb us fs out)->(S.out≠none)->(S.frs=[])->(Small S)->(Tb H Pt)->(∀H',KPt Pt H H'->Q (.bl true) H')->spOverW CM C Pt vs H Q
noncomputable def WT(CM C Pt:Addr):Sp:=λvs H Q _=>spOverW CM C Pt vs H Q
theorem ok_law_over(F:Fun K "_law_over" "_law_over" s_law_over f fd)(B:BV.NoG mg)(RM:MCls K CM gf gd)
  (OR:FnOk P w K mg base CX0 5 (gf "step") (gd "step") J1 (RO CM C))
  (O7:FnOk P w K mg base CX0 1 (gf "rows_done") (gd "rows_done") J1 (AU CM C true))
  (R9:FnOk P w K mg base CX0 6 (gf "answer") (gd "answer") J1 (Y4 CM C Pt))
  (O0:Cn P w K mg base CX0 5 "_law_copied" PN (X6 4))
  (E7:Cn P w K mg base CX0 6 "_law_same" q9L (P1 5)):
  FnOk P w K mg base CX0 7 f fd ["_law_machine"] (WT CM C Pt):=by
 obtain⟨JA,IM,O0,K5,K6,K7⟩:=O0
 obtain⟨R7,R8,E7,G6,G7,G8⟩:=E7
 refine F.ok sc_law_over (λvs H Q E h=> ?_) (λcdv A outer s H vs Q E hr h=> ?_)
 ·obtain⟨A,bs,most,S,vb,us,fs,out,rfl,_⟩:=h
  rfl
 obtain⟨A,bs,most,S,vb,us,fs,out,rfl,hM,ho,hf,hsm,hT,q⟩:=h
 have nd:=sc_law_over.nd
 have hu:=hr.units0
 refine⟨_,(A6 (C5 (i:=1) nd rfl (Or.inl rfl) (G1 (pv 0) RM.cl RM.m_rows_done O7 (hr.mono (by omega)) RM.b_rows_done .nil B8))
   (A6 (C5 (i:=2) nd rfl (Or.inl rfl) (G1 (pv 0) RM.cl RM.m_answer R9 (hr.mono (by omega)) RM.b_answer .nil B8))
   (A6 (C5 (i:=3) nd rfl (Or.inl rfl) (B1 O0 (hr.mono (by omega)) rfl K7 K6 K5 .nil B8 (A0 (pv 2) A4)))
   (A6 (C5 (i:=4) nd rfl (Or.inl rfl) (ixE K w (G1 (pv 0) RM.cl RM.m_answer R9 (hr.mono (by omega)) RM.b_answer .nil B8) (J0 E4 A5)))
   (A6 (D8 (C8 (N1 (K:=K) (B9 (S4 (K:=K)) rfl B.isinstance_ D3 (A0 (pv 4) (A0 (K8 (v:=.ty "list") rfl B.list_ N0 rfl) A4))) (λ_=>rfl)) (A6 (D8 (U0 PassesOwn.never rfl (Z4 (K:=K) (pv 4)) (G4 (i:=5) nd rfl (Or.inl rfl)) (A7 (D8 (C8 (N1 (K:=K) (B9 (S4 (K:=K)) rfl B.isinstance_ D3 (A0 (pv 5) (A0 (K8 (v:=.ty "list") rfl B.list_ N0 rfl) A4))) (λ_=>rfl)) (A7 (C0 (M9 (K:=K) PySem.F.plainAttrs_list PySem.F.slot_list_append PySem.F.type_list_append C3 (pv 5) (A0 A5 A4)))) C1)))))
   (A7 (C0 (M9 (K:=K) PySem.F.plainAttrs_list PySem.F.slot_list_append PySem.F.type_list_append C3 (pv 4) (A0 A5 A4))))) C1))
   (A6 (D8 (C8 (PW.pt (X8 (B2 SN (G1 (pv 0) RM.cl RM.m_step OR (hr.mono (by omega)) RM.b_step .nil B8) W5 rfl) (X8 (B2 (kNe (K:=K) hu) (G1 (pv 0) RM.cl RM.m_rows_done O7 (hr.mono (by omega)) RM.b_rows_done .nil B8) (pv 1) rfl) (W0 (KI (N1 (K:=K) (B1 E7 (hr.mono (by omega)) rfl G8 G7 G6 .nil B8 (A0 (pv 2) (A0 (pv 3) A4))) (λ_=>rfl))))))) (A7 (B5 W5)) C1))
   (A7 (B5 (CD (B1 E7 (hr.mono (by omega)) rfl G8 G7 G6 .nil B8 (A0 (G1 (pv 0) RM.cl RM.m_answer R9 (hr.mono (by omega)) RM.b_answer .nil B8) (A0 (pv 3) A4))) (CJ (B1 E7 (hr.mono (by omega)) rfl G8 G7 G6 .nil B8 (A0 (pv 2) (A0 (pv 3) A4))))))))))))), ?_⟩
 refine⟨_,rfl,A.m,A.dx,_,rfl,hM.r.m,rfl,A,_,_,_,_,rfl,hM.r.m, ?_⟩
 show M0 _ _ _ [some (.ref A.m),some (.int (S.r:Nat)),none,none,none,none] H
 refine⟨_,rfl,A.m,A.dx,_,rfl,hM.r.m,rfl, ?_⟩
 unfold QR
 refine EB hM hT λu1 H1 k1 hT1 hA1=> ?_
 show M0 _ _ _ [some (.ref A.m),some (.int (S.r:Nat)),some u1,none,none,none] H1
 refine⟨_,rfl,u1,rfl,QD hM.v hA1 hA1,λu2 H2 s2 hd2=> ?_⟩
 show M0 _ _ _ [some (.ref A.m),some (.int (S.r:Nat)),some u1,some u2,none,none] H2
 have hT2:=PG.tb_same hT1 s2
 have k2:KPt Pt H H2:=k1.trans (.of s2)
 have hM2:=hM.pt hT k2
 refine⟨_,rfl,A.m,A.dx,_,rfl,hM2.r.m,rfl, ?_⟩
 try unfold QR
 refine EB hM2 hT2 λu3 H3 k3 hT3 hA3=> ?_
 obtain⟨p3,xs3,x3,rfl,hp3,hx3⟩:=auZ hM.v ho hA3
 refine⟨_,rfl,(ixT hp3 (G0 _ _) ?_)⟩
 show M0 _ _ _ [some (.ref A.m),some (.int (S.r:Nat)),some u1,some u2,some x3,none] H3
 have put:∀ {H':Hp} {b:Addr} {xs:List V} (o:HO),KPt Pt H2 H'->Tb H' Pt->H' b=some (.lst xs)->H2 b=none->KPt Pt H2 (upd H' b o)/\Tb (upd H' b o) Pt:=λ{H' b xs} o kk tt hb nb=>by
  refine⟨λx ob e n=>by rw[B0 λz=>by rw[z,nb]at e;cases e];exact kk _ _ e n, ?_⟩
  refine MO (X:=λx=>x=b) tt (λx ob e n=>by rw[B0 n];exact e) λx z=>⟨xs,by rw[z];exact hb⟩
 refine⟨fun σ' H'=>∃x5,σ'=[some (.ref A.m),some (.int (S.r:Nat)),some u1,some u2,some x3,x5]/\KPt Pt H2 H'/\Tb H' Pt, ?_, ?_⟩
 ·rcases hx3 with hs|⟨a,rs,rfl,ha,na,hl,hin⟩
  ·obtain⟨t,h1,h2⟩:=NF (K:=K) (H:=H3) hs
   exact⟨_,rfl,_,_,_,_,rfl,h1,h2.li,_,rfl,ifF nZ ⟨none,rfl,k3,hT3⟩⟩
  ·refine⟨_,rfl,_,_,_,_,rfl,.lst ha,KB,_,rfl,ifT rfl ?_⟩
   have hin0:∀y∈rs,Z6 y=true\/∃b ys,y=.ref b/\H3 b=some (.lst ys)/\H2 b=none/\b≠a/\ys.length<=200+0:=λy hy=>by
    rcases hin with h|h
    ·exact .inl (h y hy)
    ·exact .inr (h y hy)
   refine⟨fun σ' H'=>∃x5,σ'=[some (.ref A.m),some (.int (S.r:Nat)),some u1,some u2,some (.ref a),x5]/\KPt Pt H2 H'/\Tb H' Pt/\H' a=some (.lst rs), ?_, ?_⟩
   ·refine⟨_,rfl,a,rfl,⟨_,SqL.of ha⟩,BG (xs:=rs) (λi σ' H'=>∃x5,σ'=[some (.ref A.m),some (.int (S.r:Nat)),some u1,some u2,some (.ref a),x5]/\KPt Pt H2 H'/\Tb H' Pt/\H' a=some (.lst rs)/\∀y∈rs,Z6 y=true\/∃b ys,y=.ref b/\H' b=some (.lst ys)/\H2 b=none/\b≠a/\ys.length<=200+i) ⟨none,rfl,k3,hT3,ha,hin0⟩ ?_ ?_ ?_⟩
    ·rintro i σ' H' _ ⟨x5,rfl,_,_,ha',_⟩
     exact SqL.of ha'
    ·rintro i x σ' H' hx ⟨x5,rfl,k',hT',ha',hin'⟩
     have hi:i<rs.length:=(List.getElem?_eq_some_iff.mp hx).1
     refine⟨fun σ' H'=>∃x5,σ'=[some (.ref A.m),some (.int (S.r:Nat)),some u1,some u2,some (.ref a),x5]/\KPt Pt H2 H'/\Tb H' Pt/\H' a=some (.lst rs)/\∀y∈rs,Z6 y=true\/∃b ys,y=.ref b/\H' b=some (.lst ys)/\H2 b=none/\b≠a/\ys.length<=200+(i+1), ?_,λ_ _ h=>h⟩
     rcases hin' x (mem_of_getElem? hx)with hs|⟨b,ys,rfl,hb,nb,nba,hl'⟩
     ·obtain⟨t,h1,h2⟩:=NF (K:=K) (H:=H') hs
      refine⟨_,rfl,_,_,_,_,rfl,h1,h2.li,_,rfl,ifF nZ ⟨_,rfl,k',hT',ha',λy hy=> ?_⟩⟩
      rcases hin' y hy with h|⟨b,ys,e,h1,h2,h3,h4⟩
      ·exact .inl h
      ·exact .inr ⟨b,ys,e,h1,h2,h3,by omega⟩
     ·refine⟨_,rfl,_,_,_,_,rfl,.lst hb,KB,_,rfl,ifT rfl ⟨_,rfl,.inl ⟨rfl,_,SqL.of hb⟩,b,ys,.int 7,rfl,rfl,hb,PG.big_ _ (by omega), ?_⟩⟩
      obtain⟨kk,tt⟩:=put (.lst (ys++ [.int 7])) k' hT' hb nb
      refine⟨_,rfl,kk,tt,by rw[B0 (Ne.symm nba)];exact ha',λy hy=> ?_⟩
      rcases hin' y hy with h|⟨b',ys',e,h1,h2,h3,h4⟩
      ·exact .inl h
      ·by_cases z:b'=b
       ·refine .inr ⟨b,ys++ [.int 7],by rw[e,z],A2,nb,nba, ?_⟩
        rw[length_append,length_singleton];omega
       ·exact .inr ⟨b',ys',e,by rw[B0 z];exact h1,h2,h3,by omega⟩
    ·rintro σ' H' ⟨x5,rfl,k',hT',ha',_⟩
     exact⟨x5,rfl,k',hT',ha'⟩
   rintro _ H' ⟨x5,rfl,k',hT',ha'⟩
   obtain⟨kk,tt⟩:=put (.lst (rs++ [.int 7])) k' hT' ha' na
   exact⟨_,rfl,.inl ⟨rfl,_,SqL.of ha'⟩,a,rs,.int 7,rfl,rfl,ha',PG.big_ _ (by omega),x5,rfl,kk,tt⟩
 rintro _ H4 ⟨x5,rfl,k4,hT4⟩
 have hM4:=hM2.pt hT2 k4
 have ml4:=KPt.ml hT2 k4
 have d12:∀ {H'},KPt Pt H2 H'->DqS H' 5 u1 u2:=λ{H'} kk=>AX (XD (KPt.ml hT2 kk) _ hd2)
 refine⟨fun σ' H'=>σ'=[some (.ref A.m),some (.int (S.r:Nat)),some u1,some u2,some x3,x5]/\KPt Pt H2 H'/\Tb H' Pt, ?_, ?_⟩
 ·refine⟨_,rfl,A.m,A.dx,_,rfl,hM4.r.m,rfl,A,bs,most,S,rfl,hM4.at_,hsm,.inl ⟨hf,false,false,rfl,rfl,_,rfl,ifF (by decide) ?_⟩⟩
  refine⟨_,rfl,A.m,A.dx,_,rfl,hM4.r.m,rfl,A,_,_,_,_,rfl,hM4.r.m,_,rfl,.inl ⟨rfl,_,rfl,ifF (by simp) ?_⟩⟩
  exact⟨_,rfl,_,rfl,u1,u2,rfl,d12 k4,λH5 s5=>⟨true,rfl,ifF (by decide) ⟨rfl,k4.trans (.of s5),PG.tb_same hT4 s5⟩⟩⟩
 rintro _ H5 ⟨rfl,k5,hT5⟩
 have hM5:=hM2.pt hT2 k5
 refine⟨_,rfl,A.m,A.dx,_,rfl,hM5.r.m,rfl, ?_⟩
 try unfold QR
 refine EB hM5 hT5 λu6 H6 k6 hT6 hA6=> ?_
 have k26:=k5.trans k6
 have hA16:AnsV H H6 S u1:=(hA1.ml ⟨B6 s2,λb xs e=>s2 _ _ e⟩).ml (KPt.ml hT2 k26)
 refine⟨_,rfl,u6,u2,rfl,PR 5 (AX (QD hM.v hA6 hA16)) (d12 k26),λH7 s7=>⟨true,rfl,ifT rfl ⟨_,rfl,_,rfl,u1,u2,rfl,d12 (k26.trans (.of s7)),λH8 s8=>q H8 (k2.trans (k26.trans ((KPt.of s7).trans (.of s8))))⟩⟩⟩
end
end LR
namespace LR
open PySem L2 CL SW MC MT PG
open BV hiding ifT ifF NoG top
theorem JK{N M:Nat}(h:N<=M){G G':PL.Pv->Prop}(g:∀p,G p->G' p){p:PL.Pv}(z:Lp N G p):Lp M G' p:=⟨z.1,le_trans z.2.1 h,λx hx=>g x (z.2.2 x hx)⟩
theorem ajZ{N M:Nat}(h:N<=M):∀ {k:Kd} {p:PL.Pv},KP N k p->KP M k p
 | .n,_,z=>z
 | .t,_,z=>z
 | .l,_,z=>JK h (λ_ y=>y) z
 | .L,_,z=>JK h (λ_ y=>JK h (λ_ x=>x) y) z
 | .F,_,z=>z.elim
 | .fn _,_,z=>z.elim
section
variable{hs:Hs}{bs:List Bk}{most:Nat}{mt:Kd}{S:Ms}{T:Tm}
theorem HY{M:Nat}(hm:most<=20)(h:Run hs bs most mt T M)(hS:Sim S T):Small S/\S.out=none/\S.frs≠ []/\S.c<=most/\T.c<=most:=by
 obtain⟨fs,f,r,c,n,ps,bk,tys,k0,st,sl,R,W,rfl,hW,hb,hF,hc,hcm,hn,hM⟩:=h.ex
 have hmm:=mem_of_getElem? hF.at_
 have h1:=hF.ok.st _ hmm
 have h2:=hF.ok.sl _ hmm
 have e1:=hF.st.len
 have e2:=hF.sl.len
 have h3:f.st.length<=80:=by rw[<-e1];exact h1
 have h4:f.sl.length<=20:=by rw[<-e2];exact h2
 obtain⟨w1,w2⟩:=bzZ hW
 have lf:=hS.frs.len
 have hn':=hS.n
 simp only[length_append,length_singleton]at lf hn'
 refine⟨⟨by omega,by omega,λg hg=> ?_⟩,(FG hS).mpr rfl,λz=> ?_,by rw[hS.c];exact hcm,hcm⟩
 ·obtain⟨i,hi⟩:=getElem?_of_mem hg
  obtain⟨t,ht,hs⟩:=hS.frs.get hi
  have l1:=hs.sl.len
  have l2:=hs.st.len
  rcases mem_append.mp (mem_of_getElem? ht)with hx|hx
  ·have:=w1 t hx
   omega
  ·rw[sZ hx]at l1 l2
   omega
 ·rw[z]at lf
  simp at lf
theorem bSZ{n:Nat}(hn:n<=200)(hmt:mt=.n\/mt=.t\/mt=.l\/mt=.L)(hE:∀t,T.out=some (.value t)->T1 hs n mt t)(hS:Sim S T):FD S:=by
 intro x e
 have ho:=hS.out
 cases eT:T.out with
 |none=>
  rw[eT]at ho
  rw[show S.out=none from ho]at e;cases e
 |some o=>
  rw[eT]at ho
  cases o with
  |value t=>
   obtain⟨x',ex,hx⟩:=ho
   rw[ex]at e
   injection e with e
   injection e with e
   subst e
   obtain⟨p,rfl,hK,hsz⟩:=cQZ (hE t eT) hmt hn
   exact⟨p,PJ hx,hsz,mt,ajZ hn hK⟩
  |refused w=>rw[show S.out=_ from ho]at e;cases e
  |dry=>rw[show S.out=_ from ho]at e;cases e
  |deep=>rw[show S.out=_ from ho]at e;cases e
inductive Stt (hs:Hs) (bs:List Bk) (most:Nat) (mt:Kd) (S:Ms):Prop
 |run {T:Tm} {M:Nat}:Sim S T->Run hs bs most mt T M->Stt hs bs most mt S
 |over {T:Tm} {n:Nat}:Sim S T->T.frs=[]->bmZ hs mt n T->n<=200->Stt hs bs most mt S
theorem Stt.small(hm:most<=20)(hmt:mt=.n\/mt=.t\/mt=.l\/mt=.L)(h:Stt hs bs most mt S):Small S/\FD S/\(S.out=none↔S.frs≠ []):=by
 cases h with
 |run h1 h2=>
  obtain⟨a,b,c,_⟩:=HY hm h2 h1
  exact⟨a,λx e=>(by rw[b]at e;cases e),λ_=>c,λ_=>b⟩
 | @over T n h1 h2 h3 h4=>
  have e1:S.frs=[]:=eq_nil_of_length_eq_zero (by rw[<-h1.frs.len,h2];rfl)
  have hn:=h1.n
  have hn2:=h3.2.1
  refine⟨⟨by omega,by rw[e1];exact zero_le _,λf hf=>by rw[e1]at hf;cases hf⟩,bSZ h4 hmt h3.2.2 h1,λz=>absurd ((FG h1).mp z) h3.1,λz=>absurd e1 z⟩
theorem Stt.step(hB:YC hs bs)(hm:most<=20)(hmt:mt=.n\/mt=.t\/mt=.l\/mt=.L)(h:Stt hs bs most mt S)(ho:S.out=none):∃S',axZ bs most S S'/\Stt hs bs most mt S'/\S.c<=most:=by
 cases h with
 | @run T M h1 h2=>
  obtain⟨_,_,_,c1,c2⟩:=HY hm h2 h1
  obtain⟨T',st,hn,h'⟩:=ZI hB (le_trans hm (by decide)) h2
  obtain⟨S',s1,s2⟩:=YD h1 st
  refine⟨S',s1, ?_,c1⟩
  rcases h' with⟨M',_,h'⟩|hE
  ·exact .run s2 h'
  ·exact .over s2 (YA st hE.1) hE (by omega)
 |over h1 h2 h3 h4=>exact absurd ((FG h1).mp ho) h3.1
end
end LR
namespace LR
open PySem L2 CL SW MC MT
open K67 (lg P3 BB DqS P1)
open PG (z1 z2 z3 U3 CQ)
open BV hiding ifT ifF NoG top
seal PE PT PW PA PS PSs PTs PI L2.PG PGs PO
noncomputable abbrev s_law:Stmt:=CL.top 54
noncomputable abbrev WZ:List Str:=["_law_script","_law_blocks","_law_main","_law_numbers","_law_most","_law_handed","_law_machine","_law_first","_law_copies","_law_k","_law_bits","_law_over_here"]
theorem sc_law:FnScope WZ VS (A9 s_law):=fS
inductive spLawW (K:FZ) (Pt:Addr) (vs:List V) (H:Hp) (Q:VK):Prop
 |mk:∀(a:Addr) (ns:List Int),(vs=[.ref a])->(SqL K H a (ns.map V.int))->(ns.length<=63)->(H Pt=some (.tbl #[]))->(∀H',Q (.bl true) H')->spLawW K Pt vs H Q
noncomputable def TQ(K:FZ)(Pt:Addr):Sp:=λvs H Q _=>spLawW K Pt vs H Q
theorem c6Z{K:FZ}{H H':Hp}{Pt a:Addr}{xs:List V}(hT:Tb H Pt)(k:KPt Pt H H')(h:SqL K H a xs):SqL K H' a xs:=by
 rcases h with(h|⟨o,h⟩)|h
 ·exact .inl (.inl (k _ _ h (PG.tb_lst hT h)))
 ·exact .inl (.inr ⟨o,k _ _ h λz=>by
   obtain⟨qs,e1,_⟩:=hT
   rw[z,e1]at h;cases h⟩)
 ·exact .inr h
theorem aFZ{H0 H:Hp}{S:Ms}{u:V}(h:AnsV H0 H S u):u=.non↔S.out=none:=by
 unfold AnsV at h
 cases e:S.out with
 |none=>rw[e]at h;exact⟨λ_=>rfl,λ_=>h⟩
 |some o=>
  rw[e]at h
  refine⟨λz=> ?_,λz=>(nomatch z)⟩
  cases o with
  |value x=>obtain⟨t,p,r,_,rfl,_⟩:=h;cases z
  |refused w=>obtain⟨p,rfl,_⟩:=h;cases z
  |dry=>obtain⟨p,rfl,_⟩:=h;cases z
  |deep=>obtain⟨p,rfl,_⟩:=h;cases z
theorem CpAt.ml{H H':Hp}{X:Addr->Prop}{u:V}(m:ML H H')(h:CpAt H X u):CpAt H' X u:=by
 obtain⟨t,a,b,xs,e,h1,h2,h3,h4⟩:=h
 exact⟨t,a,b,xs,e,m.1 _ _ h1,m.2 _ _ h2,m.2 _ _ h3,h4⟩
section
variable{P:Program}{w:World}{K:FZ}{mg:Str->Option Value}{base:Heap}{CM C Pt:Addr}{gf mf:Str->Addr}{gd md:Str->FuncData}{f fim R7 T4 GF OW NY:Addr}{fd dim R8 T8 GL NZ NP:FuncData}
theorem ok_law(F:Fun K "law" "law" s_law f fd)(B:BV.NoG mg)(RM:MCls K CM gf gd)(M_Machine:Mk K CM fim)(m_Machine:mg "Machine"=some (.ref CM))
  (GMachine___init__:FnOk P w K mg base CX0 3 fim dim aUZ (RZ CM C))(bMachine___init__:Binds K dim aUZ [])
  (AY:FnOk P w K mg base CX0 1 (gf "frames") (gd "frames") J1 (FJ CM C))
  (JD:FnOk P w K mg base CX0 2 (gf "cells") (gd "cells") J1 (FL CM C))
  (O7:FnOk P w K mg base CX0 1 (gf "rows_done") (gd "rows_done") J1 (AU CM C true))
  (IT:FnOk P w K mg base CX0 1 (gf "calls") (gd "calls") J1 (AU CM C false))
  (R9:FnOk P w K mg base CX0 6 (gf "answer") (gd "answer") J1 (Y4 CM C Pt))
  (E7:Cn P w K mg base CX0 6 "_law_same" q9L (P1 5))
  (E9:Cn P w K mg base CX0 1 "_law_cell_at" awZ (BB K))
  (T7:Cn P w K mg base CX0 6 "_law_program" VS (CQ K))
  (AC:Cn P w K mg base CX0 7 "_law_over" ["_law_machine"] (WT CM C Pt))
  (AF:Cn P w K mg base CX0 9 "_law_step" cwZ (SF CM C Pt)):
  FnOk P w K mg base CX0 10 f fd VS (TQ K Pt):=by
 obtain⟨R7,R8,E7,G6,G7,G8⟩:=E7
 obtain⟨T4,T8,E9,L3,L5,L4⟩:=E9
 obtain⟨GF,GL,T7,GE,GI,GG⟩:=T7
 obtain⟨OW,NZ,AC,OM,NT,OD⟩:=AC
 obtain⟨NY,NP,AF,OE,OU,OA⟩:=AF
 refine F.ok sc_law (λvs H Q E h=> ?_) (λcdv A outer s H vs Q X hr h=> ?_)
 ·obtain⟨a,ns,rfl,_⟩:=h
  rfl
 obtain⟨a,ns,rfl,hS,hl,hpt,q⟩:=h
 have nd:=sc_law.nd
 have hu:=hr.units0
 refine⟨_,(A6 (P8 (B1 T7 (hr.mono (by omega)) rfl GG GI GE .nil B8 (A0 (pv 0) A4)) (JL rfl (L0 (G4 (i:=1) nd rfl (Or.inl rfl)) (L0 (G4 (i:=2) nd rfl (Or.inl rfl)) (L0 (G4 (i:=3) nd rfl (Or.inl rfl)) BJ)))))
   (A6 (C5 (i:=4) nd rfl (Or.inl rfl) (B4 D7 (B1 E9 (hr.mono (by omega)) rfl L4 L5 L3 .nil B8 (A0 (pv 0) (A0 A5 A4))) A5))
   (A6 (C5 (i:=5) nd rfl (Or.inl rfl) (D4 (A0 (K0 (X7 (K:=K)) rfl B.list_ N0 (A0 (pv 1) A4)) (A0 (K0 (X7 (K:=K)) rfl B.list_ N0 (A0 (pv 3) A4)) A4))))
   (A6 (C5 (i:=6) nd rfl (Or.inl rfl) (alZ M_Machine GMachine___init__ (hr.mono (by omega)) rfl m_Machine bMachine___init__ .nil B8 (A0 (ixE K w (pv 5) A5) (A0 (pv 2) (A0 (ixE K w (pv 5) A5) (A0 (pv 4) A4))))))
   (A6 (C8 (B2 (duZ hr.units) (pv 5) (D4 (A0 (pv 1) (A0 (pv 3) A4))) rfl) (A7 (B5 W5)) C1)
   (A6 (C0 (IF (K:=K) PySem.F.plainAttrs_list PySem.F.slot_list_clear PySem.F.type_list_clear ZF (ixE K w (pv 5) A5)))
   (A6 (C0 (M9 (K:=K) PySem.F.plainAttrs_list PySem.F.slot_list_append PySem.F.type_list_append C3 (ixE K w (pv 5) A5) (A0 A5 A4)))
   (A6 (C5 (i:=7) nd rfl (Or.inl rfl) (B7 (A0 (pv 2) (A0 A5 (A0 (B4 (M2 (K:=K)) (K0 (ED (K:=K)) rfl B.tuple_ P4 (A0 (pv 3) A4)) (B4 (blZ (K:=K)) (B7 (A0 N7 A4)) (B4 P2 (ixE K w (ixE K w (pv 1) (pv 2)) A5) (B9 (J9 (K:=K)) rfl B.len_ E8 (A0 (pv 3) A4))))) (A0 (B7 A4) A4))))))
   (A6 (D8 (C8 (PW.pt (X8 (KI (N1 (K:=K) (B1 E7 (hr.mono (by omega)) rfl G8 G7 G6 .nil B8 (A0 (G1 (pv 6) RM.cl RM.m_frames AY (hr.mono (by omega)) RM.b_frames .nil B8) (A0 (D4 (A0 (pv 7) A4)) A4))) (λ_=>rfl))) (X8 (B2 (VL (K:=K) hu) (G1 (pv 6) RM.cl RM.m_cells JD (hr.mono (by omega)) RM.b_cells .nil B8) (D4 A4) rfl) (W0 (B2 (kNe (K:=K) hu) (B4 (M2 (K:=K)) (G1 (pv 6) RM.cl RM.m_rows_done O7 (hr.mono (by omega)) RM.b_rows_done .nil B8) (G1 (pv 6) RM.cl RM.m_calls IT (hr.mono (by omega)) RM.b_calls .nil B8)) A5 rfl))))) (A7 (B5 W5)) C1))
   (A6 (C5 (i:=8) nd rfl (Or.inl rfl) (D4 A4))
   (A6 (D8 (U0 PassesOwn.never rfl (L9 rfl B.range_ (A0 A5 A4)) (G4 (i:=9) nd rfl (Or.inl rfl)) (A6 (C5 (i:=10) nd rfl (Or.inl rfl) (B4 D7 (B4 JP (B4 (M2 (K:=K)) (B1 E9 (hr.mono (by omega)) rfl L4 L5 L3 .nil B8 (A0 (pv 0) (A0 A5 A4))) (B4 JP A5 (pv 9))) A5) A5))
   (A6 (D8 (C5 (i:=11) nd rfl (Or.inl rfl) (Q4 (B2 (kEq (K:=K) hu) (B4 D7 (pv 10) A5) A5 rfl) (N2 (aNZ (K:=K) hu) (G1 (pv 6) RM.cl RM.m_frames AY (hr.mono (by omega)) RM.b_frames .nil B8) (D4 A4) rfl) (N2 EA (G1 (pv 6) RM.cl RM.m_answer R9 (hr.mono (by omega)) RM.b_answer .nil B8) N7 rfl))))
   (A6 (C8 (N1 (K:=K) (pv 11) (λ_=>rfl)) (A7 (B5 (CD (B1 AC (hr.mono (by omega)) rfl OD NT OM .nil B8 (A0 (pv 6) A4)) (CJ (B9 (YX (K:=K) rfl) rfl B.all_ RJ (A0 (Z3 (cS (N:=WZ) (sc:=A9 s_law) (caps:=[]) (ns:=[])) rfl rfl rfl (Z4 (K:=K) (pv 8)) (λ_ _ _ _ _=>R5) (λ_ _ _ _ _=>(N2 (aNZ (K:=K) hu) (ixE K w (pv 0) A5) (ixE K w (pv 0) A5) rfl))) A4)))))) C1)
   (A7 (C8 (KI (N1 (K:=K) (B1 AF (hr.mono (by omega)) rfl OA OU OE .nil B8 (A0 (pv 6) (A0 (pv 1) (A0 (pv 4) (A0 (pv 8) (A0 (B4 D1 (pv 10) A5) A4)))))) (λ_=>rfl))) (A7 (B5 W5)) C1)))))))
   (A7 (B5 (B9 (YX (K:=K) rfl) rfl B.all_ RJ (A0 (Z3 (cS (N:=WZ) (sc:=A9 s_law) (caps:=[]) (ns:=[])) rfl rfl rfl (Z4 (K:=K) (pv 8)) (λ_ _ _ _ _=>R5) (λ_ _ _ _ _=>(N2 (aNZ (K:=K) hu) (ixE K w (pv 0) A5) (ixE K w (pv 0) A5) rfl))) A4))))))))))))))), ?_⟩
 have hTb:Tb H Pt:=⟨_,hpt,(by first|exact trivial|simp[TriplesOk]),.inl rfl⟩
 refine⟨_,rfl,a,ns,rfl,hS,hl,λt bl nu hs bs main m mt xs H1 s1 ht hP=> ?_⟩
 refine⟨t,_,rfl,SqT.of ht,rfl,_,_,rfl,_,_,rfl,_,_,rfl,rfl, ?_⟩
 obtain⟨most,(em:P3 ns 6%21=(most:Int)),hm⟩:=U3 (P3 ns 6) (m:=21) (by decide)
 refine⟨_,rfl,a,ns,6,rfl,s1.seq hS,by decide,_,_,rfl,rfl,(by decide:(0:Int)<21), ?_⟩
 show M0 _ _ _ [some (.ref a),some (.ref bl),some (.int (main:Nat)),some (.ref nu),some (.int (P3 ns 6%21)),none,none,none,none,none,none,none] H1
 rw[em]
 have hT1:=PG.tb_same hTb s1
 have hS1:=s1.seq hS
 obtain⟨vb,hbl,hB⟩:=hP.bl
 have hnu:=hP.nu
 have hmt:=hP.mh.2.2
 have hm3:=hP.mh.2.1
 have hxl:=hP.xl
 obtain⟨bk,hbk,hsz,hRun⟩:=PG.run_start (most:=most) hP.ok hP.mh.1 hP.xl hP.xb
 have lws:(xs.map λi=>Vl.sc (.int i)).length<=bk.sz:=by rw[length_map,hsz];omega
 refine⟨_,rfl,bl,vb,rfl,.inl (SqL.of hbl),λh0 hh0=>⟨_,rfl,nu,_,rfl,.inl (SqL.of ((A3 hh0 _) _ _ hnu)),λh1 hh1=>⟨z2,λhd hhd=> ?_⟩⟩⟩
 have v0:=A3 hh0 (.lst vb)
 have v1:=A3 hh1 (.lst (xs.map V.int))
 have v2:=A3 hhd (.lst [.ref h0,.ref h1])
 have v12:=v0.trans (v1.trans v2)
 have y0:=(v1.trans v2) _ _ (A2 (H:=H1) (a:=h0) (o:=.lst vb))
 have y1:=v2 _ _ (A2 (H:=upd H1 h0 (.lst vb)) (a:=h1) (o:=.lst (xs.map V.int)))
 have y2:=A2 (H:=upd (upd H1 h0 (.lst vb)) h1 (.lst (xs.map V.int))) (a:=hd) (o:=.lst [.ref h0,.ref h1])
 have n01:h0≠h1:=λz=>by rw[<-z,A2]at hh1;cases hh1
 have n0d:hd≠h0:=λz=>by rw[z,v1 _ _ A2]at hhd;cases hhd
 have n1d:hd≠h1:=λz=>by rw[z,A2]at hhd;cases hhd
 show M0 _ _ _ [some (.ref a),some (.ref bl),some (.int (main:Nat)),some (.ref nu),some (.int (most:Nat)),some (.ref hd),none,none,none,none,none,none] (upd (upd (upd H1 h0 (.lst vb)) h1 (.lst (xs.map V.int))) hd (.lst [.ref h0,.ref h1]))
 have f0:=hh0
 have f1:=v0.free hh1
 generalize upd (upd (upd H1 h0 (.lst vb)) h1 (.lst (xs.map V.int))) hd (.lst [.ref h0,.ref h1])=H2 at v12 y0 y1 y2⊢
 clear v0 v1 v2 hh0 hh1 hhd
 refine⟨_,rfl,(ixL y2 rfl ⟨_,rfl,_,rfl,(ixL y2 rfl ⟨_,rfl,λx dx hx hdx hn=> ?_⟩)⟩)⟩
 have t0:Same H2 (upd (upd H2 dx (.own x)) x (.ins CM dx [])):=λb ob e=>by rw[B0 (C6 e hx),B0 (C6 e hdx)];exact e
 have mo0:Mo H1 (upd (upd H2 dx (.own x)) x (.ins CM dx [])):=B6 (v12.trans t0)
 refine⟨x,dx,h0,h1,vb,xs.map V.int,main,most,bs,bk,xs.map λi=>Vl.sc (.int i),rfl,A2,t0 _ _ y0,hB.imp λ_ _ z=>BAt.mo mo0 z,hbk,t0 _ _ y1,EU xs,lws,λA1 H3 eA k1 nw hA1=>⟨rfl, ?_⟩⟩
 have k23:Same H2 H3:=λb ob e=>k1 _ _ (t0 _ _ e) (C6 e hx)
 have own2:∀y∈A1.own,H2 y=none:=λy hy=>by
  rcases nw y hy with z|z
  ·rw[z];exact hx
  ·exact t0.free z
 subst eA
 show M0 _ _ _ [some (.ref a),some (.ref bl),some (.int (main:Nat)),some (.ref nu),some (.int (most:Nat)),some (.ref hd),some (.ref A1.m),none,none,none,none,none] H3
 clear k1 nw hdx hn t0 mo0
 have k13:=v12.trans k23
 have y0':=k23 _ _ y0
 have y1':=k23 _ _ y1
 have y2':=k23 _ _ y2
 have hbl3:=k13 _ _ hbl
 have hnu3:=k13 _ _ hnu
 refine⟨_,rfl,_,rfl,_,rfl,z2,λfl hfl=> ?_⟩
 have s4:=A3 hfl (.lst [.ref bl,.ref nu])
 have pint:∀zs:List Int,∀y∈zs.map V.int,P0 y=true:=λzs y hy=>by
  obtain⟨z,_,rfl⟩:=mem_map.mp hy
  rfl
 have pvb:∀y∈vb,P0 y=true:=λy hy=>by
  obtain⟨i,hi⟩:=getElem?_of_mem hy
  obtain⟨_,_,t,_,_,rfl,_⟩:=hB.get hi
  rfl
 have dl:∀ {b c:Addr} {ys:List V},H3 b=some (.lst ys)->H3 c=some (.lst ys)->(∀y∈ys,P0 y=true)->Dl K (upd H3 fl (.lst [.ref bl,.ref nu])) 1 (.ref b) (.ref c):=λ{b c ys} hb hc hp=>
  .inr ⟨b,c,ys,ys,rfl,rfl,.inr ⟨SqL.of (s4 _ _ hb),SqL.of (s4 _ _ hc)⟩,rfl,λj u v hu hv=>by
   rw[hu]at hv
   cases hv
   exact⟨hp u (mem_of_getElem? hu),rfl⟩⟩
 refine⟨hd,fl,_,_,1,rfl,rfl,SqL.of (s4 _ _ y2'),SqL.of A2,rfl,by decide,λj u v hu hv=> ?_,_,rfl,ifF (by decide) ?_⟩
 ·match j,hu,hv with
  |0,hu,hv=>cases hu;cases hv;exact dl y0' hbl3 pvb
  |1,hu,hv=>cases hu;cases hv;exact dl y1' hnu3 (pint xs)
  |j+2,hu,hv=>simp at hu
 have k24:=k23.trans s4
 have k14:=k13.trans s4
 have hA4:=hA1.same s4
 generalize upd H3 fl (.lst [.ref bl,.ref nu])=H4 at s4 k24 k14 hA4⊢
 have w0:=k24 _ _ y0
 have w1:=k24 _ _ y1
 have w2:=k24 _ _ y2
 refine⟨_,rfl,(ixL w2 rfl ⟨.inl ⟨rfl,_,SqL.of w0⟩,h0,vb,rfl,rfl,w0, ?_⟩)⟩
 have w1':upd H4 h0 (.lst []) h1=some (.lst (xs.map V.int)):=by rw[B0 (Ne.symm n01)];exact w1
 have w2':upd H4 h0 (.lst []) hd=some (.lst [.ref h0,.ref h1]):=by rw[B0 n0d];exact w2
 refine⟨_,rfl,(ixL w2' rfl ⟨.inl ⟨rfl,_,SqL.of w1'⟩,h1,_,.int 7,rfl,rfl,w1',PG.big_ _ (by rw[length_map];omega), ?_⟩)⟩
 have k45:∀b ob,H4 b=some ob->¬(b=h0\/b=h1)->upd (upd H4 h0 (.lst [])) h1 (.lst (xs.map V.int++ [.int 7])) b=some ob:=λb ob e n=>by
  rw[B0 λz=>n (.inr z),B0 λz=>n (.inl z)];exact e
 have hX4:∀b,(b=h0\/b=h1)->∃ys,H4 b=some (.lst ys):=λb z=>by
  rcases z with z|z<;>rw[z]
  ·exact⟨_,w0⟩
  ·exact⟨_,w1⟩
 have k15:Same H1 (upd (upd H4 h0 (.lst [])) h1 (.lst (xs.map V.int++ [.int 7]))):=λb ob e=>k45 _ _ (k14 _ _ e) λz=>by
  rcases z with z|z<;>rw[z]at e
  ·rw[f0]at e;cases e
  ·rw[f1]at e;cases e
 obtain⟨vb4,us4,fs4,out4,hr4,hb4,hc4,hf4,ho4⟩:=id hA4.ex
 have hM4:MD CM C H4 A1 bs most ⟨[],[begun main bk.sz (xs.map λi=>Vl.sc (.int i))],none,0,0⟩ vb4 us4 fs4 out4:=⟨hr4,hb4,hc4,hf4,ho4,λx e=>(nomatch e)⟩
 have hM5:=hM4.keep k45 (λb hb z=>by
  have:=own2 b hb
  rcases z with z|z<;>rw[z]at this
  ·rw[y0]at this;cases this
  ·rw[y1]at this;cases this) hX4
 show M0 _ _ _ [some (.ref a),some (.ref bl),some (.int (main:Nat)),some (.ref nu),some (.int (most:Nat)),some (.ref hd),some (.ref A1.m),none,none,none,none,none] (upd (upd H4 h0 (.lst [])) h1 (.lst (xs.map V.int++ [.int 7])))
 generalize upd (upd H4 h0 (.lst [])) h1 (.lst (xs.map V.int++ [.int 7]))=H5 at k15 hM5⊢
 have own1:∀y∈A1.own,H1 y=none:=λy hy=>v12.free (own2 y hy)
 clear w0 w1 w2 w1' w2' k45 hX4 hM4 hr4 hb4 hc4 hf4 ho4 hA4 k24 k14 s4 dl y0' y1' y2' hbl3 hnu3 k13 k23 hA1 y0 y1 y2 v12
 cases hM5.c
 have hbl5:=k15 _ _ hbl
 have hnu5:=k15 _ _ hnu
 have hB5:=hB.imp λ_ _ z=>BAt.mo (B6 k15) z
 obtain⟨ub,hub,tb,rs,ur,rfl,hb1,hb2,hb3,hb4⟩:=E3 hB5 hbk
 have ek:((bk.sz:Nat):Int) - ((xs.map V.int).length:Nat)=3:=by rw[length_map,hsz,hxl];omega
 refine⟨_,rfl,_,rfl,nu,_,rfl,.inl ⟨SqL.of hnu5,λtn htn=>⟨z1,λt1 ht1=> ?_⟩⟩⟩
 have p1:=A3 htn (.tup (xs.map V.int))
 have p2:=A3 ht1 (.tup [.non])
 have p12:=p1.trans p2
 refine⟨_,rfl,_,rfl,(ixL (v:=.ref tb) (p12 _ _ hbl5) (C9 hub) (ixT (p12 _ _ hb1) rfl ⟨_,rfl,_,_,rfl,.inl ⟨_,SqL.of (p12 _ _ hnu5),rfl⟩,_,_,rfl,rfl,.inr ⟨t1,_,.non,rfl,rfl,SqT.of A2,by rw[ek];decide,by rw[ek];decide,λz=>absurd (ek.symm.trans z) (by decide),λ_ pr hpr=> ?_⟩⟩))⟩
 rw[ek]
 have p3:=A3 hpr (.tup (List.replicate (3:Int).toNat .non))
 refine .inr (.inr (Q1 ((p2.trans p3) _ _ A2) A2 (by rw[length_map,length_replicate];show xs.length+3<=2000;omega) λts H6 p4 hts=>⟨zero_le _,λte hte=>⟨EX,λtf htf=> ?_⟩⟩))
 have p5:=A3 hte (.tup [])
 have p6:=A3 htf (.tup [.int (main:Nat),.int 0,.ref ts,.ref te])
 have p56:=p12.trans (p3.trans (p4.trans (p5.trans p6)))
 have hff:FAt (upd (upd H6 te (.tup [])) tf (.tup [.int (main:Nat),.int 0,.ref ts,.ref te])) (begun main bk.sz (xs.map λi=>Vl.sc (.int i))) (.ref tf):=by
  refine⟨tf,_,[],rfl,⟨ts,te,A2,(p5.trans p6) _ _ hts,p6 _ _ A2⟩, ?_,.nil⟩
  show All2 _ ((xs.map λi=>Vl.sc (.int i))++List.replicate (bk.sz - (xs.map λi=>Vl.sc (.int i)).length) (.sc .non)) (xs.map V.int++List.replicate 3 .non)
  have e3:bk.sz - (xs.map λi=>Vl.sc (.int i)).length=3:=by rw[length_map,hsz,hxl];omega
  rw[e3]
  exact(EU xs).app (S7 3)
 show M0 _ _ _ [some (.ref a),some (.ref bl),some (.int (main:Nat)),some (.ref nu),some (.int (most:Nat)),some (.ref hd),some (.ref A1.m),some (.ref tf),none,none,none,none] (upd (upd H6 te (.tup [])) tf (.tup [.int (main:Nat),.int 0,.ref ts,.ref te]))
 generalize upd (upd H6 te (.tup [])) tf (.tup [.int (main:Nat),.int 0,.ref ts,.ref te])=H7 at p56 hff⊢
 have k17:=k15.trans p56
 have hT7:=PG.tb_same hT1 k17
 have hM7:=hM5.pt (PG.tb_same hT1 k15) (.of p56)
 have lfs:=hM7.f.len
 have hSt0:Stt hs bs most mt ⟨[],[begun main bk.sz (xs.map λi=>Vl.sc (.int i))],none,0,0⟩:=.run (VA (TU xs)) hRun
 obtain⟨hsm0,_,_⟩:=hSt0.small (by omega) hmt
 refine⟨fun σ' H'=>σ'=[some (.ref a),some (.ref bl),some (.int (main:Nat)),some (.ref nu),some (.int (most:Nat)),some (.ref hd),some (.ref A1.m),some (.ref tf),none,none,none,none]/\Same H7 H', ?_, ?_⟩
 ·refine⟨_,rfl,A1.m,A1.dx,_,rfl,hM7.r.m,rfl,A1,_,_,_,_,_,_,_,rfl,hM7.r,λlf hlf=>⟨_,rfl,z1,λl1 hl1=> ?_⟩⟩
  have r1:=A3 hlf (.lst fs4)
  have r2:=A3 hl1 (.lst [.ref tf])
  have r12:=r1.trans r2
  refine⟨.ref lf,.ref l1,rfl, ?_,λH8 s8=>⟨true,rfl,ifF (by decide) ?_⟩⟩
  ·refine AX (PG.dq_lst (r2 _ _ A2) A2 (by rw[<-lfs];exact(by decide:1<=1000)) ?_)
   exact GB hsm0.fr (hM7.f.imp λ_ _ z=>FAt.mo (B6 r12) z) (.cons (FAt.mo (B6 r12) hff) .nil)
  have r3:=r12.trans s8
  have hM8:=hM7.pt hT7 (.of r3)
  refine⟨_,rfl,A1.m,A1.dx,_,rfl,hM8.r.m,rfl,A1,_,_,_,_,_,_,_,rfl,hM8.r,λlc hlc=>⟨zero_le _,λle hle=> .inl ⟨lc,le,[],rfl,rfl,SqL.of ((A3 hle _) _ _ A2),SqL.of A2,rfl,_,rfl,ifF (by decide) ?_⟩⟩⟩
  have r4:=A3 hlc (.lst [])
  have r5:=A3 hle (.lst [])
  have r35:=r3.trans (r4.trans r5)
  have hM9:=hM7.pt hT7 (.of r35)
  exact⟨_,rfl,A1.m,A1.dx,_,rfl,hM9.r.m,rfl,A1,_,_,_,_,rfl,hM9.r.m,_,rfl,A1.m,A1.dx,_,rfl,hM9.r.m,rfl,A1,_,_,_,_,rfl,hM9.r.m,.inl ⟨_,_,rfl,rfl,.inl ⟨rfl,_,rfl,ifF (by simp) ⟨rfl,r35⟩⟩⟩⟩
 rintro _ H8 ⟨rfl,s78⟩
 have k18:=k17.trans s78
 have hM8:=hM7.pt hT7 (.of s78)
 have hT8:=PG.tb_same hT7 s78
 refine⟨zero_le _,λcp hcp=> ?_⟩
 have s9:=A3 hcp (.lst [])
 have hcp9:upd H8 cp (.lst []) cp=some (.lst []):=A2
 have hcp1:H1 cp=none:=k18.free hcp
 have k19:=k18.trans s9
 have hM9:=hM8.pt hT8 (.of s9)
 have hT9:=PG.tb_same hT8 s9
 have ncpA:cp∉A1.own:=λz=>by
  have:H8 cp≠none:=by
   obtain⟨dxo,ho,hL⟩:=hM8.r.o
   simp only[Ad.own,mem_cons,not_mem_nil,or_false]at z
   rcases z with h|h|h|h|h<;>rw[h]
   ·rw[hM8.r.m];exact λy=>(nomatch y)
   ·rw[hM8.r.bl];exact λy=>(nomatch y)
   ·rw[ho];exact λy=>(nomatch y)
   ·rw[hL];exact λy=>(nomatch y)
   ·rw[hM8.r.s];exact λy=>(nomatch y)
  exact this hcp
 have nbc:bl≠cp:=λz=>by rw[<-z,hbl]at hcp1;cases hcp1
 show M0 _ _ _ [some (.ref a),some (.ref bl),some (.int (main:Nat)),some (.ref nu),some (.int (most:Nat)),some (.ref hd),some (.ref A1.m),some (.ref tf),some (.ref cp),none,none,none] (upd H8 cp (.lst []))
 generalize upd H8 cp (.lst [])=H9 at s9 hcp9 k19 hM9 hT9⊢
 have pr:∀ {H':Hp} {X:Addr->Prop} {cps:List V} {i:Nat} {u:V},(∀u∈cps,CpAt H' X u)->cps[i]? =some u->CpAt H' X u:=λh e=>h _ (mem_of_getElem? e)
 refine⟨fun σ' H'=>∃x9 x10 x11 cps X,σ'=[some (.ref a),some (.ref bl),some (.int (main:Nat)),some (.ref nu),some (.int (most:Nat)),some (.ref hd),some (.ref A1.m),some (.ref tf),some (.ref cp),x9,x10,x11]/\H' cp=some (.lst cps)/\cps.length<=120/\∀u∈cps,CpAt H' X u, ?_, ?_⟩
 ·refine⟨((60:Nat):Int),rfl,by decide,by decide,Z2 (n:=60) (λi σ' H'=>∃x9 x10 x11 A S cps,A.m=A1.m/\σ'=[some (.ref a),some (.ref bl),some (.int (main:Nat)),some (.ref nu),some (.int (most:Nat)),some (.ref hd),some (.ref A1.m),some (.ref tf),some (.ref cp),x9,x10,x11]/\KPt Pt H1 H'/\Tb H' Pt/\(∀y∈A.own,H1 y=none)/\MAt CM C H' A bs most S/\Stt hs bs most mt S/\H' cp=some (.lst cps)/\cps.length=2*i/\cp∉A.own/\∀u∈cps,CpAt H' (λa=>a∈A.own\/a=cp) u) ?_ ?_ ?_⟩
  ·exact⟨none,none,none,A1,_,[],rfl,rfl,.of k19,hT9,own1,hM9.at_,hSt0,hcp9,rfl,ncpA,λu hu=>(nomatch hu)⟩
  ·rintro i σ' H' hi ⟨x9,x10,x11,A,S,cps,eA,rfl,kH,hT',own',hA',hSt,hcp',hlen,ncp,hcps⟩
   have hS':=c6Z hT1 kH hS1
   obtain⟨hsm,hval,hiff⟩:=hSt.small (by omega) hmt
   obtain⟨vb',us',fs',out',hr',hb',hc',hf',ho'⟩:=id hA'.ex
   have hMD:MD CM C H' A bs most S vb' us' fs' out':=⟨hr',hb',hc',hf',ho',hval⟩
   rw[<-eA]
   refine⟨_,rfl,a,ns,7,rfl,hS',by decide,_,rfl,.inl ⟨_,_,rfl,rfl,.inl ⟨by decide,by decide⟩,.inl ⟨_,_,rfl,rfl,.inl ⟨_,_,rfl,rfl,.inr ⟨by decide,by decide⟩,_,_,rfl,rfl,(by decide:(0:Int)<1000003), ?_⟩⟩⟩⟩
   generalize(P3 ns 7+7919*(0+((i:Nat):Int)))*48271%1000003=bits
   show M0 _ _ _ [some (.ref a),some (.ref bl),some (.int (main:Nat)),some (.ref nu),some (.int (most:Nat)),some (.ref hd),some (.ref A.m),some (.ref tf),some (.ref cp),some (.int (0+((i:Nat):Int))),some (.int bits),x11] H'
   refine⟨fun σ' H2=>∃b:Bool,σ'=[some (.ref a),some (.ref bl),some (.int (main:Nat)),some (.ref nu),some (.int (most:Nat)),some (.ref hd),some (.ref A.m),some (.ref tf),some (.ref cp),some (.int (0+((i:Nat):Int))),some (.int bits),some (.bl b)]/\(b=true↔S.out≠none)/\KPt Pt H' H2/\Tb H2 Pt,⟨_,rfl,_,_,rfl,rfl,(by decide:(0:Int)<2),.inl ⟨rfl,_,rfl, ?_⟩⟩, ?_⟩
   ·by_cases c1:bits%2=1
    ·refine ifT (decide_eq_true (congrArg V.int c1)) ⟨_,rfl,A.m,A.dx,_,rfl,hr'.m,rfl,A,_,_,_,_,_,_,_,rfl,hr',λl hl=>⟨zero_le _,λe he=> ?_⟩⟩
     have r1:=A3 hl (.lst fs')
     have r2:=A3 he (.lst [])
     have lf':=hf'.len
     by_cases c2:fs'=[]
     ·have e0:S.frs=[]:=eq_nil_of_length_eq_zero (by rw[lf',c2];rfl)
      subst c2
      exact .inl ⟨l,e,[],rfl,rfl,SqL.of (r2 _ _ A2),SqL.of A2,rfl,true,rfl,⟨λ_ z=>(hiff.mp z) e0,λ_=>rfl⟩,.of (r1.trans r2),PG.tb_same hT' (r1.trans r2)⟩
     ·have e0:S.frs≠ []:=λz=>c2 (eq_nil_of_length_eq_zero (by rw[<-lf',z];rfl))
      exact .inr ⟨l,e,_,_,rfl,rfl,SqL.of (r2 _ _ A2),SqL.of A2,(λz=>c2 (eq_nil_of_length_eq_zero z)),false,rfl,⟨λz=>(nomatch z),λz=>absurd (hiff.mpr e0) z⟩,.of (r1.trans r2),PG.tb_same hT' (r1.trans r2)⟩
    ·refine ifF (λz=>c1 (by have:=of_decide_eq_true z;injection this)) ⟨_,rfl,A.m,A.dx,_,rfl,hr'.m,rfl, ?_⟩
     try unfold QR
     refine EB hMD hT' λu H2 k2 hT2 hA2=>⟨rfl,_,rfl, ?_,k2,hT2⟩
     have hn:=aFZ hA2
     by_cases c2:u=.non
     ·rw[decide_eq_true c2]
      exact⟨λz=>(nomatch z),λz=>absurd (hn.mp c2) z⟩
     ·rw[decide_eq_false c2]
      exact⟨λ_ z=>c2 (hn.mpr z),λ_=>rfl⟩
   rintro _ H2 ⟨b,rfl,hb,k2,hT2⟩
   have ml2:=KPt.ml hT' k2
   have hM2:=hMD.pt hT' k2
   have kH2:=kH.trans k2
   have hcp2:=ml2.2 _ _ hcp'
   have hcps2:∀u∈cps,CpAt H2 (λa=>a∈A.own\/a=cp) u:=λu hu=>(hcps u hu).ml ml2
   by_cases ho:S.out=none
   ·obtain rfl:b=false:=by
     cases b with
     |false=>rfl
     |true=>exact absurd ho (hb.mp rfl)
    refine⟨_,rfl,_,rfl,ifF nZ ?_⟩
    obtain⟨S',hstep,hSt',hcm⟩:=hSt.step hP.ok (by omega) hmt ho
    obtain⟨hsm',hval',_⟩:=hSt'.small (by omega) hmt
    have nbl:bl∉A.own:=λz=>by rw[own' _ z]at hbl;cases hbl
    refine⟨_,rfl,_,rfl,_,rfl,_,rfl,_,rfl,_,_,rfl,rfl,lg (by decide) (by decide),A,bs,most,S,S',vb',us',fs',out',vb,bl,cp,cps,_,rfl,hM2,hstep,hsm,hsm',hval',hcm,kH2 _ _ hbl (PG.tb_lst hT1 hbl),hB.imp λ_ _ z=>BAt.mo (kH2.mo hT1) z,nbl,hcp2,ncp,nbc,by omega,hcps2,hT2,λA' cps' H3 nw kk hT3 hA3 hcp3 hlen3 hcps3=>⟨true,rfl,ifF (by decide) ⟨_,_,_,A',S',cps',nw.1,rfl,λb ob e n=> ?_,hT3,λy hy=> ?_,hA3,hSt',hcp3,by omega,λz=> ?_,hcps3⟩⟩⟩
    ·exact kk _ _ (kH2 _ _ e n) (λz=>by rw[own' _ z]at e;cases e) n λz=>by rw[z,hcp1]at e;cases e
    ·rcases nw.2 y hy with z|z
     ·exact own' y z
     ·exact kH2.free z (BC hT2 z)
    ·rcases nw.2 cp z with y|y
     ·exact ncp y
     ·rw[hcp2]at y;cases y
   ·obtain rfl:b=true:=hb.mpr ho
    have hfr:S.frs=[]:=Classical.byContradiction λz=>ho (hiff.mpr z)
    refine⟨_,rfl,_,rfl,ifT rfl ?_⟩
    refine⟨_,rfl,A,bs,most,S,vb',us',fs',out',rfl,hM2,ho,hfr,hsm,hT2,λH3 k3=>⟨true,rfl,ifT rfl ?_⟩⟩
    have ml3:=KPt.ml hT2 k3
    have hcp3:=ml3.2 _ _ hcp2
    refine⟨_,rfl,cp,rfl,⟨_,SqL.of hcp3⟩,CP (xs:=cps) (λj ys H4=>ys=List.replicate j (.bl true)/\H4=H3) ⟨rfl,rfl⟩ ?_ ?_ ?_⟩
    ·rintro j ys H4 hj ⟨rfl,rfl⟩
     refine⟨SqL.of hcp3, ?_⟩
     rw[length_replicate]
     exact le_of_lt (PG.big_ _ (by omega))
    ·rintro j x ys H4 hx ⟨rfl,rfl⟩
     obtain⟨t,a',b',zs,rfl,e1,e2,e3,e4,_⟩:=(pr hcps2 hx).ml ml3
     exact CK ⟨_,rfl,(ixT e1 rfl ⟨_,rfl,(ixT e1 rfl (.inl ⟨a',b',zs,rfl,rfl,SqL.of e2,SqL.of e3,e4,by rw[List.replicate_succ'],rfl⟩))⟩)⟩
    ·rintro ys H4 ⟨rfl,rfl⟩ D hD
     refine⟨D,List.replicate cps.length true,rfl,SqL.of (by rw[A2,List.map_replicate]), ?_⟩
     rw[show(List.replicate cps.length true).all id=true by simp]
     exact q _
  ·rintro σ' H' ⟨x9,x10,x11,A,S,cps,eA,rfl,_,_,_,_,_,hcp',hlen,_,hcps⟩
   exact⟨x9,x10,x11,cps,_,rfl,hcp',by omega,hcps⟩
 rintro _ H' ⟨x9,x10,x11,cps,X,rfl,hcp',hlen,hcps⟩
 refine⟨_,rfl,cp,rfl,⟨_,SqL.of hcp'⟩,CP (xs:=cps) (λj ys H2=>ys=List.replicate j (.bl true)/\H2=H') ⟨rfl,rfl⟩ ?_ ?_ ?_⟩
 ·rintro j ys H2 hj ⟨rfl,rfl⟩
  refine⟨SqL.of hcp', ?_⟩
  rw[length_replicate]
  exact le_of_lt (PG.big_ _ (by omega))
 ·rintro j x ys H2 hx ⟨rfl,rfl⟩
  obtain⟨t,a',b',zs,rfl,e1,e2,e3,e4,_⟩:=pr hcps hx
  exact CK ⟨_,rfl,(ixT e1 rfl ⟨_,rfl,(ixT e1 rfl (.inl ⟨a',b',zs,rfl,rfl,SqL.of e2,SqL.of e3,e4,by rw[List.replicate_succ'],rfl⟩))⟩)⟩
 ·rintro ys H2 ⟨rfl,rfl⟩ D hD
  refine⟨D,List.replicate cps.length true,rfl,SqL.of (by rw[A2,List.map_replicate]), ?_⟩
  rw[show(List.replicate cps.length true).all id=true by simp]
  exact q _
end
end LR
namespace LR
open PySem L2 CL MC
noncomputable abbrev s_collect:Stmt:=J2 (top 31) 6
noncomputable abbrev s_hung_on:Stmt:=J2 (top 31) 7
noncomputable abbrev s_hang_on:Stmt:=J2 (top 31) 8
end LR
namespace PySem.W.Fast
def tw17531994874609605492:=Nat
def tw6410513730718742141:=Nat
def tw8091236948202487146:=Nat
def tw7852434082284299736:=Nat
def tw2354037794177224042:=Nat
def tw5555548927110504078:=Nat
def tw4258889340205892737:=Nat
def tw15545092819937675073:=Nat
def tw9534147585476086355:=Nat
def tw391893771428615502:=Nat
def tw13788272916669559331:=Nat
def tw7436079935479443190:=Nat
def tw12207709781994019552:=Nat
def tw7111076790952197019:=Nat
def tw10006388664086866083:=Nat
def tw18202078249590520220:=Nat
def tw4273101762146441495:=Nat
def tw7610546997919870954:=Nat
def tw17683067397775100365:=Nat
def tw215179795065376908:=Nat
def tw12508716072968105215:=Nat
def tw1307463440096134839:=Nat
def tw6045066654220856397:=Nat
def tw1358711797459093649:=Nat
def tw5463631751930580235:=Nat
def tw727983899718664712:=Nat
def tw7031584779364784245:=Nat
def tw873921497510621967:=Nat
def tw97385273353224351:=Nat
def tw4831106534215034898:=Nat
def tw2756474601356410449:=Nat
def tw12156076907936031292:=Nat
def tw15633397311991528649:=Nat
def tw17623127856439216735:=Nat
def tw5134740780884613534:=Nat
def tw13174430894980501045:=Nat
def tw4133636623241674861:=Nat
def tw15530662281324842534:=Nat
def tw4222853903208836415:=Nat
def tw17640234392017791136:=Nat
def tw16882963496566495275:=Nat
def tw5826656066955055582:=Nat
def tw3464399388903654548:=Nat
def tw5372111736416101408:=Nat
def tw6429707439219364719:=Nat
def tw7410213618644579055:=Nat
def tw10037757811744343517:=Nat
def tw18109311372891059691:=Nat
def tw13264700797620704272:=Nat
def tw10047376272868473568:=Nat
def tw1015804995194688574:=Nat
def tw17005280290265255184:=Nat
def tw14333234932266974255:=Nat
def tw8425899814170514266:=Nat
def tw13443452408758046902:=Nat
def tw16253426064948488357:=Nat
def tw2724375353886807432:=Nat
def tw1210794175000995509:=Nat
def tw5624653611462789742:=Nat
def tw8977529351662902674:=Nat
def tw11469491262431939511:=Nat
def tw16396877830025447896:=Nat
def tw6984732755153987149:=Nat
def tw1312199922151769743:=Nat
def tw2324920447311511938:=Nat
def tw4098682645888416161:=Nat
def tw5845668563095816881:=Nat
def tw6779334982137735134:=Nat
def tw6971209437928978378:=Nat
def tw14918179599199671533:=Nat
def tw11933844273047989816:=Nat
def tw2001929870631746268:=Nat
def tw17068084163691754673:=Nat
def tw12407258152316929786:=Nat
def tw4333329416602512996:=Nat
def tw14611705684152803176:=Nat
def tw7544896106874293044:=Nat
def tw6042574024033274328:=Nat
def tw5888624009449811472:=Nat
def tw17976053077933427399:=Nat
def tw16866292077158195784:=Nat
def tw9757936720220644197:=Nat
def tw9536332474942531448:=Nat
def tw13064537444313105523:=Nat
def tw1430381744593869236:=Nat
def tw11219081717931971831:=Nat
def tw7302992268690407052:=Nat
def tw17053855778892444782:=Nat
def tw939271806128987416:=Nat
def tw7495645293272695624:=Nat
def tw846970233308226095:=Nat
def tw2150008566149364914:=Nat
def tw17773960670967991981:=Nat
def tw13192172002467014544:=Nat
def tw8808916207460424247:=Nat
def tw13102056639996741056:=Nat
def tw13790773227945329884:=Nat
def tw8309478585658057432:=Nat
def tw186676984791566567:=Nat
def tw194059683199621994:=Nat
def tw13860111525081919910:=Nat
def tw5705520748227488499:=Nat
def tw12825280469226042593:=Nat
def tw414735384491911073:=Nat
def tw9257433338653206281:=Nat
def tw10074164740375084347:=Nat
def tw3039387595724688117:=Nat
def tw2020421966311750381:=Nat
def tw8405628723521545868:=Nat
def tw9152555482893560683:=Nat
def tw5515178361271241847:=Nat
def tw3920001544086469916:=Nat
def tw7952131446622745171:=Nat
def tw3468474818504015767:=Nat
def tw8303242485295005704:=Nat
def tw1321696124136874678:=Nat
def tw6586363915833060315:=Nat
def tw1141273656146138315:=Nat
def tw15016051537967206587:=Nat
def tw7937428758650382455:=Nat
def tw8110346392075548138:=Nat
def tw15443970060490390016:=Nat
def tw14729712460561093105:=Nat
def tw16761584059594283217:=Nat
def tw13936464138747990608:=Nat
def tw6407615199608197041:=Nat
def tw6252351132020027947:=Nat
def tw3363199422304305903:=Nat
def tw4385942838975645579:=Nat
def tw13416905226647439968:=Nat
def tw13546866237431366704:=Nat
def tw16850593741347601128:=Nat
def tw13872248923827727613:=Nat
def tw8168798101972428745:=Nat
def tw5572268849168627738:=Nat
def tw7587628216211442124:=Nat
def tw5123686797733759298:=Nat
def tw10293875246225811746:=Nat
def tw4517425076878595173:=Nat
def tw8726327393413178653:=Nat
def tw1517339230115202875:=Nat
def tw5627465344393521371:=Nat
def tw10099945507861681770:=Nat
def tw4792578908717098539:=Nat
def tw12636461055538605698:=Nat
def tw1908058024317784397:=Nat
def tw9926763203613884461:=Nat
def tw14229712087439405857:=Nat
def tw13521559818719731167:=Nat
def tw14909380777211440516:=Nat
def tw10203332189087142073:=Nat
def tw9224239676974567186:=Nat
def tw6146478887409189225:=Nat
def tw9133401198313830888:=Nat
def tw12715950630085164074:=Nat
def tw8339222260512723081:=Nat
def tw12988377442972626236:=Nat
def tw13087343705866647138:=Nat
def tw14014760570422772274:=Nat
def tw14375019673523551247:=Nat
def tw15430798742920707241:=Nat
def tw692660883604460443:=Nat
def tw1665576905495282260:=Nat
def tw5481447795091009912:=Nat
def tw9907551388484986529:=Nat
def tw2046654814198966013:=Nat
def tw12304345490644190033:=Nat
def tw7844171639359011481:=Nat
def tw7496414509301372405:=Nat
def tw3552065657721579254:=Nat
def tw7027536608948090253:=Nat
def tw18261740628667628112:=Nat
def tw8547877586839399544:=Nat
def tw14377065741826799087:=Nat
def tw16943782583454626824:=Nat
def tw14202302103628117751:=Nat
def tw5789466601455449493:=Nat
def tw8543538468988941950:=Nat
def tw16948085701627811372:=Nat
def tw1040174120777709680:=Nat
def tw5997765820223586691:=Nat
def tw17290842132291582873:=Nat
def tw15867751931836490561:=Nat
def tw13445478015029700931:=Nat
def tw2876897609541790092:=Nat
def tw11952882791931776744:=Nat
def tw990673269186500126:=Nat
def tw15138631464862392988:=Nat
def tw1523366305993153906:=Nat
def tw11036259043864143568:=Nat
def tw3326043595221549670:=Nat
def tw18326828039856597565:=Nat
def tw7981238843045056120:=Nat
def tw7602638912307795815:=Nat
def tw1025819449923427764:=Nat
def tw8655691308834441980:=Nat
def tw4472824757413609667:=Nat
def tw160885083821661791:=Nat
def tw4920162221212901430:=Nat
def tw6636634705026461811:=Nat
def tw12487981629010372166:=Nat
def tw15684212536255476009:=Nat
def tw4631370932880750888:=Nat
def tw2320557588794417757:=Nat
def tw2106165944171220602:=Nat
def tw18339511107156001865:=Nat
def tw15706201587450206588:=Nat
def tw5801849296211840279:=Nat
def tw14281946934232725709:=Nat
def tw285321269827067020:=Nat
def tw16845466391171701693:=Nat
def tw3162390683855226667:=Nat
def tw4846159460716472419:=Nat
def tw1813708002387134176:=Nat
def tw11373437000932539552:=Nat
def tw5028260537491385852:=Nat
def tw17194018074637711847:=Nat
def tw12899434530510335007:=Nat
def tw7532103947478556028:=Nat
def tw6766022717007360509:=Nat
def tw11413168353027917544:=Nat
def tw3817315281995104054:=Nat
def tw7787155055291133224:=Nat
def tw14213953580539304750:=Nat
def tw5568189405898359243:=Nat
def tw16122943380543907633:=Nat
def tw6226396720134664725:=Nat
def tw2772165670907650921:=Nat
def tw4761216608874777448:=Nat
def tw826640070534047997:=Nat
def tw16447498749209147796:=Nat
def tw6425391000759803204:=Nat
def tw2946814009149199040:=Nat
def tw7828549948348893011:=Nat
def tw12955201897715670381:=Nat
def tw9949492524838599371:=Nat
def tw3627761335098639488:=Nat
def tw14636528237712047644:=Nat
def tw4177929666178656981:=Nat
def tw10116420943139631520:=Nat
def tw17829843573521110974:=Nat
def tw7334189944403085403:=Nat
def tw14278283516226310248:=Nat
def tw15906866261227244950:=Nat
def tw15275270149943642935:=Nat
def tw12465903075780331442:=Nat
def tw1745451853352252081:=Nat
def tw4376268342354728166:=Nat
def tw2634168561517403169:=Nat
def tw16159766951683349210:=Nat
def tw1222384642427172742:=Nat
def tw2314437846324671558:=Nat
def tw14993978952301682161:=Nat
def tw18044419618086664636:=Nat
def tw3638228184967507257:=Nat
def tw10300750068697091495:=Nat
def tw16096631814909860831:=Nat
def tw3443052704879576227:=Nat
def tw364722806014718102:=Nat
def tw16191494114289582560:=Nat
def tw14129792721951385030:=Nat
def tw13577910101916346954:=Nat
def tw2408584883722084685:=Nat
def tw8609332634198142066:=Nat
def tw10743471063369353774:=Nat
def tw3577949532450325629:=Nat
def tw4468695458256211016:=Nat
def tw11259015094585542903:=Nat
def tw17811199950190691078:=Nat
def tw4169520538331195533:=Nat
def tw8484662263814177119:=Nat
def tw6293216488001258964:=Nat
def tw11401120213920655834:=Nat
def tw366338626342571514:=Nat
def tw3338965273713459901:=Nat
def tw11305605161753882074:=Nat
def tw15085913136647260713:=Nat
def tw4210485375015943263:=Nat
def tw11830024033083147127:=Nat
def tw13937340415247145318:=Nat
def tw13959837053105821698:=Nat
def tw12296903101049896697:=Nat
def tw10173861029136603034:=Nat
def tw2646378129313826030:=Nat
def tw6043704549978187760:=Nat
def tw5811382778334935482:=Nat
def tw4295487581955860373:=Nat
def tw9106229499188498903:=Nat
def tw489902751059887381:=Nat
def tw9015125310133025793:=Nat
def tw12381809153134588438:=Nat
def tw4721049496985122789:=Nat
def tw53522918862554217:=Nat
def tw1350796871697679941:=Nat
def tw2266542773399572503:=Nat
def tw7396990743101343149:=Nat
def tw725328591139861208:=Nat
def tw1080528931970369123:=Nat
def tw14770938363709704919:=Nat
def tw16066948547194003769:=Nat
def tw588227457828748567:=Nat
def tw6092371319642524027:=Nat
def tw4695961247381879225:=Nat
def tw4983696080092071065:=Nat
def tw4585889432131718440:=Nat
def tw5391300037606541919:=Nat
def tw3446204594308326376:=Nat
def tw9854801395153721371:=Nat
def tw14972483337503825456:=Nat
def tw5489682319256349509:=Nat
def tw1187779969420617055:=Nat
def tw14996880281970096296:=Nat
def tw10471039125354722809:=Nat
def tw5454944880858598171:=Nat
def tw10551171090866369130:=Nat
def tw4341216890510692758:=Nat
def tw4519923395448713794:=Nat
def tw808199551317613724:=Nat
def tw15026945850572168100:=Nat
def tw2506490485066446015:=Nat
def tw603412999744254077:=Nat
def tw123395802922335623:=Nat
def tw17691110943527308441:=Nat
def tw287999612753896350:=Nat
def tw10606678868764931044:=Nat
def tw17100854712760412570:=Nat
def tw8350999622275468918:=Nat
def tw2978879990324088137:=Nat
def tw4586451979336482725:=Nat
def tw12950500164988854:=Nat
def tw501775875766282492:=Nat
def tw12745243137750772826:=Nat
def tw12731595078208381793:=Nat
def tw736207925839499089:=Nat
def tw9918379008140983342:=Nat
def tw10110927696897480664:=Nat
def tw8931481433573247048:=Nat
def tw8146539672447376282:=Nat
def tw16508323334999039921:=Nat
def tw9864260794134793663:=Nat
def tw11168246173598320892:=Nat
def tw3210131145212103152:=Nat
def tw4264604421651225681:=Nat
def tw3582237764955899013:=Nat
def tw17175136009374113719:=Nat
def tw16673990884393662008:=Nat
def tw6628741975993349875:=Nat
def tw5327659363470704338:=Nat
def tw9330955488223409873:=Nat
def tw9813826380774594558:=Nat
def tw9551059564715010052:=Nat
def tw5427636679784963055:=Nat
def tw18065972463383976072:=Nat
def tw13554321198607983221:=Nat
def tw8968420225739625153:=Nat
def tw15712674707067430029:=Nat
def tw10276905477592288868:=Nat
def tw12349183547919839734:=Nat
def tw10688372584954604092:=Nat
def tw13102694029355403273:=Nat
def tw14701729141924191867:=Nat
def tw379797400480479904:=Nat
def tw940219082210230901:=Nat
def tw10307976885452190091:=Nat
def tw16068588094176020000:=Nat
def tw993835498523965072:=Nat
def tw14629896663296071994:=Nat
def tw12135857658959868078:=Nat
def tw17279847881796424720:=Nat
def tw3458049836103289845:=Nat
def tw7986947995856163994:=Nat
def tw10006940642960829147:=Nat
def tw9063867335289604079:=Nat
def tw3614545325265196229:=Nat
def tw1013303251571143329:=Nat
def tw16584923434261432078:=Nat
def tw4793416069180496001:=Nat
def tw14037254729799264493:=Nat
def tw17488836430437059198:=Nat
def tw11776061575641457014:=Nat
def tw16398059929978614524:=Nat
def tw14539695184914288139:=Nat
def tw15991722762189666767:=Nat
def tw12719204402797921603:=Nat
def tw15641598591356247239:=Nat
def tw5984178169432882600:=Nat
def tw10953364139952525891:=Nat
def tw5704341390509903841:=Nat
def tw9015433917969659677:=Nat
def tw6854555234984952275:=Nat
def tw2759019748405314159:=Nat
def tw6696707982011517529:=Nat
def tw7495487480469989574:=Nat
def tw15847584566033093908:=Nat
def tw6393392865255539536:=Nat
def tw17736722363189813866:=Nat
def tw2863866723084323596:=Nat
def tw3478859359905425163:=Nat
def tw9974399859875220871:=Nat
def tw3205563284023045735:=Nat
def tw4374763764815878487:=Nat
def tw8361408890838113815:=Nat
def tw10516411712186716272:=Nat
def tw15284898865895856212:=Nat
def tw12042785137629285249:=Nat
def tw843817218361644262:=Nat
def tw16988213079337475490:=Nat
def tw11637713428909492252:=Nat
def tw16756501912505113369:=Nat
def tw1915261445038265821:=Nat
def tw583954845530734267:=Nat
def tw10141154936496947718:=Nat
def tw9404478012934241798:=Nat
def tw1620822048617817252:=Nat
def tw17437392569048234254:=Nat
def tw8271057594667897078:=Nat
def tw16651713714680416745:=Nat
def tw12524319127680016492:=Nat
def tw3193731317043849201:=Nat
def tw11283575287398170905:=Nat
def tw6582534293641234812:=Nat
def tw16466060235640700411:=Nat
def tw14687468508162644256:=Nat
def tw3721019339028998850:=Nat
def tw6192509391643638716:=Nat
def tw10148417900847876009:=Nat
def tw8843514027036415333:=Nat
def tw12276359975112076667:=Nat
def tw8271542730539841619:=Nat
def tw2031793954992456885:=Nat
def tw11314130380706832817:=Nat
def tw9920330372467361992:=Nat
def tw16519679196722471936:=Nat
def tw10089096069119663069:=Nat
def tw9001408576553898958:=Nat
def tw3600837373230887971:=Nat
def tw1054918818935699748:=Nat
def tw11981199135439739921:=Nat
def tw8820891071938663983:=Nat
def tw17548257852946429816:=Nat
def tw14500764153161271782:=Nat
def tw3550656744269746846:=Nat
def tw10238160900697055080:=Nat
def tw18249774622234428417:=Nat
def tw4235746397896985963:=Nat
def tw981955991597413798:=Nat
def tw8060921891729695716:=Nat
def tw441582490293590941:=Nat
def tw17082418939802938294:=Nat
def tw4099827798018681379:=Nat
def tw17364039388358751304:=Nat
def tw14152827726010942813:=Nat
def tw12240248303236877082:=Nat
def tw15247102915119579677:=Nat
def tw1044252368973009095:=Nat
def tw366412746155095705:=Nat
def tw4750288543821887293:=Nat
def tw16430391466323386233:=Nat
def tw3377286901762017610:=Nat
def tw5298545132252659251:=Nat
def tw13812679061684690250:=Nat
def tw3019665941253731:=Nat
def tw7091743003860740971:=Nat
def tw15607021307314481595:=Nat
def tw8208627340626665764:=Nat
def tw5542291990593814803:=Nat
def tw10002859936497048155:=Nat
def tw150168543370245044:=Nat
def tw2307217516907468558:=Nat
def tw8760906957364962870:=Nat
def tw9751140305956666209:=Nat
def tw4762440807251150360:=Nat
def tw10743287823273150919:=Nat
def tw8475432010731674461:=Nat
def tw12022616178553601210:=Nat
def tw9910088116846455972:=Nat
def tw11755306148396832104:=Nat
def tw15000467088027588197:=Nat
def tw13298939098989791229:=Nat
def tw10041929767246212790:=Nat
def tw7403971913653837900:=Nat
def tw204277813004848122:=Nat
def tw15387026889831442666:=Nat
def tw11440228133727110083:=Nat
def tw10799059347263766493:=Nat
def tw14619953608385845366:=Nat
def tw14193609193581629407:=Nat
def tw14764023495863608291:=Nat
def tw2310201469440628785:=Nat
def tw17509717481332762742:=Nat
def tw11761700025874880220:=Nat
def tw10706072671284755723:=Nat
def tw3041536060761138940:=Nat
def tw1500765646020357881:=Nat
def tw8234868875533780501:=Nat
def tw6111302371234114960:=Nat
def tw649959935280177976:=Nat
def tw3794150727319593687:=Nat
end PySem.W.Fast
namespace LR
open PySem L2
noncomputable def QE{α:Type}(l:List (Str×α))(d:α)(x:Str):α:=(l.lookup x).getD d
theorem D2{α:Type}(d:α):∀(l:List (Str×α)) (i:Nat) (x:Str) (v:α),l[i]? =some (x,v)->(l.map (·.1)).Nodup->QE l d x=v
 | [],i,x,v,h,_=>by cases h
 |(y,u)::r,0,x,v,h,_=>by
  cases h
  unfold QE
  rw[List.lookup_cons_self]
  rfl
 |(y,u)::r,i+1,x,v,h,hn=>by
  have h':r[i]? =some (x,v):=h
  rw[map_cons,nodup_cons]at hn
  have hm:x∈r.map (·.1):=mem_map.mpr ⟨(x,v),mem_of_getElem? h',rfl⟩
  have hne:x≠y:=λe=>hn.1 (e▸hm)
  have ih:=D2 d r i x v h' hn.2
  unfold QE at ih⊢
  rw[lookup_cons,show(x==y)=false from beq_false_of_ne hne]
  exact ih
theorem M1:(["put","at","many","told"]:List Str).Nodup:=by decide +kernel
theorem dCZ(f0 f1 f2 f3:Addr)(d0 d1 d2 d3:FuncData):∃(mf:Str->Addr) (md:Str->FuncData),mf "put"=f0/\mf "at"=f1/\mf "many"=f2/\mf "told"=f3/\md "put"=d0/\md "at"=d1/\md "many"=d2/\md "told"=d3:=
 ⟨QE [("put",f0),("at",f1),("many",f2),("told",f3)] f0,QE [("put",d0),("at",d1),("many",d2),("told",d3)] d0,D2 _ _ 0 _ _ rfl M1,D2 _ _ 1 _ _ rfl M1,D2 _ _ 2 _ _ rfl M1,D2 _ _ 3 _ _ rfl M1,D2 _ _ 0 _ _ rfl M1,D2 _ _ 1 _ _ rfl M1,D2 _ _ 2 _ _ rfl M1,D2 _ _ 3 _ _ rfl M1⟩
/-- a def of the top,as it lies -/
noncomputable def DefAt(K:FZ)(x:Str)(st:Stmt)(f:Addr)(fd:FuncData):Prop:=∃(oc kV dc pm cd ct:Value) (od an:Option Addr) (sl:Array (Option Value)),fd=fnOf x x (G2 st) (E5 st) (A9 st) .none kV dc pm an cd ct/\PySem.W.nsIn K mainGlobals x=some (some (.ref f))/\K.lookup f=some ⟨oc,od,.func (fnOf x x (G2 st) (E5 st) (A9 st) .none kV dc pm an cd ct),sl⟩/\codeIn K cd x=true/\PySem.W.keepIn K (.ref f)=true
section
variable{K:FZ}{x:Str}{st:Stmt}{f:Addr}{fd:FuncData}
theorem DefAt.ns(h:DefAt K x st f fd):PySem.W.nsIn K mainGlobals x=some (some (.ref f)):=by
 obtain⟨_,_,_,_,_,_,_,_,_,_,a,_⟩:=h
 exact a
theorem DefAt.kp(h:DefAt K x st f fd):kZ K (.ref f)=true:=by
 obtain⟨_,_,_,_,_,_,_,_,_,_,_,_,_,a⟩:=h
 exact a
theorem DefAt.fn(h:DefAt K x st f fd):Fun K x x st f fd:=by
 obtain⟨_,_,_,_,_,_,_,_,_,rfl,_,l,c,k⟩:=h
 exact V4 l c k
end
/-- a method of a class,as it lies -/
noncomputable def MethAt(K:FZ)(C:Addr)(x qn:Str)(st:Stmt)(f:Addr)(fd:FuncData):Prop:=∃(oc kV dc pm cd ct:Value) (od an:Option Addr) (sl:Array (Option Value)),fd=fnOf x qn (G2 st) (E5 st) (A9 st) .none kV dc pm an cd ct/\findIn K (.ref C) x=some (some (.ref f))/\K.lookup f=some ⟨oc,od,.func (fnOf x qn (G2 st) (E5 st) (A9 st) .none kV dc pm an cd ct),sl⟩/\codeIn K cd qn=true/\PySem.W.keepIn K (.ref f)=true/\isFn K (.ref f)=true
section
variable{K:FZ}{C:Addr}{x qn:Str}{st:Stmt}{f:Addr}{fd:FuncData}
theorem MethAt.me(h:MethAt K C x qn st f fd):Meth K C x f:=by
 obtain⟨_,_,_,_,_,_,_,_,_,_,a,_,_,k,j⟩:=h
 exact⟨a,j,k⟩
theorem MethAt.fn(h:MethAt K C x qn st f fd):Fun K x qn st f fd:=by
 obtain⟨_,_,_,_,_,_,_,_,_,rfl,_,l,c,k,_⟩:=h
 exact V4 l c k
end
theorem C2:(["step","go_on","enter","leave","end","collect","hung_on","hang_on","has_value","answer","frames","cells","rows_done","calls"]:List Str).Nodup:=by decide +kernel
theorem cNZ(f0 f1 f2 f3 f4 f5 f6 f7 f8 f9 f10 f11 f12 f13:Addr)(d0 d1 d2 d3 d4 d5 d6 d7 d8 d9 d10 d11 d12 d13:FuncData):∃(mf:Str->Addr) (md:Str->FuncData),mf "step"=f0/\mf "go_on"=f1/\mf "enter"=f2/\mf "leave"=f3/\mf "end"=f4/\mf "collect"=f5/\mf "hung_on"=f6/\mf "hang_on"=f7/\mf "has_value"=f8/\mf "answer"=f9/\mf "frames"=f10/\mf "cells"=f11/\mf "rows_done"=f12/\mf "calls"=f13/\md "step"=d0/\md "go_on"=d1/\md "enter"=d2/\md "leave"=d3/\md "end"=d4/\md "collect"=d5/\md "hung_on"=d6/\md "hang_on"=d7/\md "has_value"=d8/\md "answer"=d9/\md "frames"=d10/\md "cells"=d11/\md "rows_done"=d12/\md "calls"=d13:=
 ⟨QE [("step",f0),("go_on",f1),("enter",f2),("leave",f3),("end",f4),("collect",f5),("hung_on",f6),("hang_on",f7),("has_value",f8),("answer",f9),("frames",f10),("cells",f11),("rows_done",f12),("calls",f13)] f0,QE [("step",d0),("go_on",d1),("enter",d2),("leave",d3),("end",d4),("collect",d5),("hung_on",d6),("hang_on",d7),("has_value",d8),("answer",d9),("frames",d10),("cells",d11),("rows_done",d12),("calls",d13)] d0,D2 _ _ 0 _ _ rfl C2,D2 _ _ 1 _ _ rfl C2,D2 _ _ 2 _ _ rfl C2,D2 _ _ 3 _ _ rfl C2,D2 _ _ 4 _ _ rfl C2,D2 _ _ 5 _ _ rfl C2,D2 _ _ 6 _ _ rfl C2,D2 _ _ 7 _ _ rfl C2,D2 _ _ 8 _ _ rfl C2,D2 _ _ 9 _ _ rfl C2,D2 _ _ 10 _ _ rfl C2,D2 _ _ 11 _ _ rfl C2,D2 _ _ 12 _ _ rfl C2,D2 _ _ 13 _ _ rfl C2,D2 _ _ 0 _ _ rfl C2,D2 _ _ 1 _ _ rfl C2,D2 _ _ 2 _ _ rfl C2,D2 _ _ 3 _ _ rfl C2,D2 _ _ 4 _ _ rfl C2,D2 _ _ 5 _ _ rfl C2,D2 _ _ 6 _ _ rfl C2,D2 _ _ 7 _ _ rfl C2,D2 _ _ 8 _ _ rfl C2,D2 _ _ 9 _ _ rfl C2,D2 _ _ 10 _ _ rfl C2,D2 _ _ 11 _ _ rfl C2,D2 _ _ 12 _ _ rfl C2,D2 _ _ 13 _ _ rfl C2⟩
theorem bn1{K:FZ}{x qual:Str}{st:Stmt}{f:Addr}{fd:FuncData}{ps:List Str}(F:Fun K x qual st f fd)(l:ps.length=1)(h:∀(kV doc pm:Value) (an:Option Addr) (cdv ct a0:Value),bindArgs (fnOf x qual (G2 st) (E5 st) (A9 st) .none kV doc pm an cdv ct) ⟨[a0],[]⟩=pure (ps.zip [a0])):Binds K fd ps []:=
 F.binds λkV doc pm an cdv ct us hl=>match us,hl.trans l with| [a0],_=>h kV doc pm an cdv ct a0
theorem bn2{K:FZ}{x qual:Str}{st:Stmt}{f:Addr}{fd:FuncData}{ps:List Str}(F:Fun K x qual st f fd)(l:ps.length=2)(h:∀(kV doc pm:Value) (an:Option Addr) (cdv ct a0 a1:Value),bindArgs (fnOf x qual (G2 st) (E5 st) (A9 st) .none kV doc pm an cdv ct) ⟨[a0,a1],[]⟩=pure (ps.zip [a0,a1])):Binds K fd ps []:=
 F.binds λkV doc pm an cdv ct us hl=>match us,hl.trans l with| [a0,a1],_=>h kV doc pm an cdv ct a0 a1
theorem bn3{K:FZ}{x qual:Str}{st:Stmt}{f:Addr}{fd:FuncData}{ps:List Str}(F:Fun K x qual st f fd)(l:ps.length=3)(h:∀(kV doc pm:Value) (an:Option Addr) (cdv ct a0 a1 a2:Value),bindArgs (fnOf x qual (G2 st) (E5 st) (A9 st) .none kV doc pm an cdv ct) ⟨[a0,a1,a2],[]⟩=pure (ps.zip [a0,a1,a2])):Binds K fd ps []:=
 F.binds λkV doc pm an cdv ct us hl=>match us,hl.trans l with| [a0,a1,a2],_=>h kV doc pm an cdv ct a0 a1 a2
theorem bn4{K:FZ}{x qual:Str}{st:Stmt}{f:Addr}{fd:FuncData}{ps:List Str}(F:Fun K x qual st f fd)(l:ps.length=4)(h:∀(kV doc pm:Value) (an:Option Addr) (cdv ct a0 a1 a2 a3:Value),bindArgs (fnOf x qual (G2 st) (E5 st) (A9 st) .none kV doc pm an cdv ct) ⟨[a0,a1,a2,a3],[]⟩=pure (ps.zip [a0,a1,a2,a3])):Binds K fd ps []:=
 F.binds λkV doc pm an cdv ct us hl=>match us,hl.trans l with| [a0,a1,a2,a3],_=>h kV doc pm an cdv ct a0 a1 a2 a3
theorem bn5{K:FZ}{x qual:Str}{st:Stmt}{f:Addr}{fd:FuncData}{ps:List Str}(F:Fun K x qual st f fd)(l:ps.length=5)(h:∀(kV doc pm:Value) (an:Option Addr) (cdv ct a0 a1 a2 a3 a4:Value),bindArgs (fnOf x qual (G2 st) (E5 st) (A9 st) .none kV doc pm an cdv ct) ⟨[a0,a1,a2,a3,a4],[]⟩=pure (ps.zip [a0,a1,a2,a3,a4])):Binds K fd ps []:=
 F.binds λkV doc pm an cdv ct us hl=>match us,hl.trans l with| [a0,a1,a2,a3,a4],_=>h kV doc pm an cdv ct a0 a1 a2 a3 a4
theorem all_mk{l:PySem.W.OpenLaw}{w:World}{K:PySem.W.Frag}{h:Heap}{mg:Str->Option Value}{fa:Addr}(X:K.In h)(G:h.Ns mainGlobals mg)(hfa:mg "law"=some (.ref fa)){c Pt:Addr}
  {f0 f1 f2 f3 f4 f5 f6 f7 f8 f9 f10 f11 f12 f13 f14 f15 f16 f17 f18 f19 f20 f21 f22 f23 f24 f25 f26 f27 f28 f29 f30 f31 f32 f33 f34 f35 f36 f37 f38 f39 f40 f41 f42:Addr}{od2 an2 od42 an42:Option Addr}{sl2 sl42:Array (Option Value)}{oc2 kV2 dc2 pm2 cd2 ct2 oc42 kV42 dc42 pm42 cd42 ct42:Value}
  {e0 e1 e3 e4 e5 e6 e7 e8 e9 e10 e11 e12 e13 e14 e15 e16 e17 e18 e19 e20 e21 e22 e23 e24 e25 e26 e27 e28 e29 e30 e31 e32 e33 e34 e35 e36 e37 e38 e39 e40 e41:FuncData}
  {t_GREATEST t_DEEPEST:Tok}
  {C:Addr}{fM0 fM1 fM2 fM3 fI:Addr}{odM0 anM0 odM1 anM1 odM2 anM2 odM3 anM3 odI anI:Option Addr}{slM0 slM1 slM2 slM3 slI:Array (Option Value)}{ocM0 kVM0 dcM0 pmM0 cdM0 ctM0 ocM1 kVM1 dcM1 pmM1 cdM1 ctM1 ocM2 kVM2 dcM2 pmM2 cdM2 ctM2 ocM3 kVM3 dcM3 pmM3 cdM3 ctM3 ocI kVI dcI pmI cdI ctI:Value}
  {pf_ROW_SIGNS:Addr}{es_ROW_SIGNS:Array DictEntry}{nes_ROW_SIGNS:Nat}
  (d0:DefAt K "built_up" BV.s_built_up f0 e0)
  (d1:DefAt K "is_cell" PL.s_is_cell f1 e1)
  (d3:DefAt K "heads_of" PL.s_heads_of f3 e3)
  (d4:DefAt K "with_heads" PL.s_with_heads f4 e4)
  (d5:DefAt K "two_told" NM.s_two_told f5 e5)
  (d6:DefAt K "quotient_told" NM.s_quotient_told f6 e6)
  (d7:DefAt K "outcome" NM.s_outcome f7 e7)
  (d8:DefAt K "bounded" NM.s_bounded f8 e8)
  (d9:DefAt K "entered" CL.s_entered f9 e9)
  (d10:DefAt K "own_done" CL.s_own_done f10 e10)
  (d11:DefAt K "called" CL.s_called f11 e11)
  (d12:DefAt K "behind" CL.s_behind f12 e12)
  (d13:DefAt K "top_values" CL.s_top_values f13 e13)
  (d14:DefAt K "two_done" CL.s_two_done f14 e14)
  (d15:DefAt K "part_done" CL.s_part_done f15 e15)
  (d16:DefAt K "with_new_cell" CL.s_with_new_cell f16 e16)
  (d17:DefAt K "with_nothing_put" CL.s_with_nothing_put f17 e17)
  (d18:DefAt K "with_slot" CL.s_with_slot f18 e18)
  (d19:DefAt K "further" CL.s_further f19 e19)
  (d20:DefAt K "value_put" CL.s_value_put f20 e20)
  (d21:DefAt K "_law_cell_at" K67.s_law_cell_at f21 e21)
  (d22:DefAt K "_law_same" CL.s_law_same f22 e22)
  (d23:DefAt K "_law_number" K67.s_law_number f23 e23)
  (d24:DefAt K "_law_heads" PG.s_law_heads f24 e24)
  (d25:DefAt K "_law_push" PG.s_law_push f25 e25)
  (d26:DefAt K "_law_want" PG.s_law_want f26 e26)
  (d27:DefAt K "_law_reckon" PG.s_law_reckon f27 e27)
  (d28:DefAt K "_law_listed" PG.s_law_listed f28 e28)
  (d29:DefAt K "_law_branch" PG.s_law_branch f29 e29)
  (d30:DefAt K "_law_slotted" PG.s_law_slotted f30 e30)
  (d31:DefAt K "_law_calling" PG.s_law_calling f31 e31)
  (d32:DefAt K "_law_block" PG.s_law_block f32 e32)
  (d33:DefAt K "_law_program" PG.s_law_program f33 e33)
  (d34:DefAt K "_law_heap" LR.s_law_heap f34 e34)
  (d35:DefAt K "_law_back" LR.s_law_back f35 e35)
  (d36:DefAt K "_law_due" LR.s_law_due f36 e36)
  (d37:DefAt K "_law_asked" LR.s_law_asked f37 e37)
  (d38:DefAt K "_law_seen" LR.s_law_seen f38 e38)
  (d39:DefAt K "_law_step" LR.s_law_step f39 e39)
  (d40:DefAt K "_law_copied" LR.s_law_copied f40 e40)
  (d41:DefAt K "_law_over" LR.s_law_over f41 e41)
  (a2:PySem.W.nsIn K mainGlobals "plain"=some (some (.ref f2)))(l2:K.lookup f2=some ⟨oc2,od2,.func (PySem.W.fnOf "plain" "plain" (G2 PL.s_plain) (E5 PL.s_plain) (A9 PL.s_plain) .none kV2 dc2 pm2 an2 cd2 ct2),sl2⟩)(c2:PySem.W.codeIn K cd2 "plain"=true)(k2:PySem.W.keepIn K (.ref f2)=true)
  (a42:PySem.W.nsIn K mainGlobals "law"=some (some (.ref f42)))(l42:K.lookup f42=some ⟨oc42,od42,.func (PySem.W.fnOf "law" "law" (G2 LR.s_law) (E5 LR.s_law) (A9 LR.s_law) .none kV42 dc42 pm42 an42 cd42 ct42),sl42⟩)(c42:PySem.W.codeIn K cd42 "law"=true)(k42:PySem.W.keepIn K (.ref f42)=true)
  (e_GREATEST:PySem.W.nsIn K mainGlobals "GREATEST"=some (some (.int 10000000000000000000000000000000000000000 t_GREATEST)))
  (e_DEEPEST:PySem.W.nsIn K mainGlobals "DEEPEST"=some (some (.int 60 t_DEEPEST)))
  (aD_ROW_SIGNS:PySem.W.nsIn K mainGlobals "ROW_SIGNS"=some (some (.ref pf_ROW_SIGNS)))(lD_ROW_SIGNS:K.lookup pf_ROW_SIGNS=some ⟨.type "dict",none,.dict es_ROW_SIGNS nes_ROW_SIGNS, #[]⟩)(kD_ROW_SIGNS:PySem.W.KeysLit w.params es_ROW_SIGNS.toList)(pD_ROW_SIGNS:Paired (λ(p:Str×V) (e:DictEntry)=>(∃t,e.key=.str p.1 t)/\RelV p.2 e.val) CL.RS es_ROW_SIGNS.toList)(oD_ROW_SIGNS:(pf_ROW_SIGNS==sysModules)=false)
  (aC:PySem.W.nsIn K mainGlobals "Cells"=some (some (.ref C)))
  (aM0:PySem.W.findIn K (.ref C) "put"=some (some (.ref fM0)))(lM0:K.lookup fM0=some ⟨ocM0,odM0,.func (PySem.W.fnOf "put" "Cells.put" (G2 CL.s_put) (E5 CL.s_put) (A9 CL.s_put) .none kVM0 dcM0 pmM0 anM0 cdM0 ctM0),slM0⟩)(cM0:PySem.W.codeIn K cdM0 "Cells.put"=true)(kM0:PySem.W.keepIn K (.ref fM0)=true)(jM0:PySem.W.isFn K (.ref fM0)=true)
  (aM1:PySem.W.findIn K (.ref C) "at"=some (some (.ref fM1)))(lM1:K.lookup fM1=some ⟨ocM1,odM1,.func (PySem.W.fnOf "at" "Cells.at" (G2 CL.s_at) (E5 CL.s_at) (A9 CL.s_at) .none kVM1 dcM1 pmM1 anM1 cdM1 ctM1),slM1⟩)(cM1:PySem.W.codeIn K cdM1 "Cells.at"=true)(kM1:PySem.W.keepIn K (.ref fM1)=true)(jM1:PySem.W.isFn K (.ref fM1)=true)
  (aM2:PySem.W.findIn K (.ref C) "many"=some (some (.ref fM2)))(lM2:K.lookup fM2=some ⟨ocM2,odM2,.func (PySem.W.fnOf "many" "Cells.many" (G2 CL.s_many) (E5 CL.s_many) (A9 CL.s_many) .none kVM2 dcM2 pmM2 anM2 cdM2 ctM2),slM2⟩)(cM2:PySem.W.codeIn K cdM2 "Cells.many"=true)(kM2:PySem.W.keepIn K (.ref fM2)=true)(jM2:PySem.W.isFn K (.ref fM2)=true)
  (aM3:PySem.W.findIn K (.ref C) "told"=some (some (.ref fM3)))(lM3:K.lookup fM3=some ⟨ocM3,odM3,.func (PySem.W.fnOf "told" "Cells.told" (G2 CL.s_told) (E5 CL.s_told) (A9 CL.s_told) .none kVM3 dcM3 pmM3 anM3 cdM3 ctM3),slM3⟩)(cM3:PySem.W.codeIn K cdM3 "Cells.told"=true)(kM3:PySem.W.keepIn K (.ref fM3)=true)(jM3:PySem.W.isFn K (.ref fM3)=true)
  (aI:PySem.W.findIn K (.ref C) "__init__"=some (some (.ref fI)))(lI:K.lookup fI=some ⟨ocI,odI,.func (PySem.W.fnOf "__init__" "Cells.__init__" (G2 CL.s_init) (E5 CL.s_init) (A9 CL.s_init) .none kVI dcI pmI anI cdI ctI),slI⟩)(cI:PySem.W.codeIn K cdI "Cells.__init__"=true)(kI:PySem.W.keepIn K (.ref fI)=true)(jI:PySem.W.isFn K (.ref fI)=true)
  (pg:PySem.W.plainGet K C Str.empty=true)(hd:PySem.W.hasDictIn K C=true)(po:PySem.W.plainOver K C=true)(sa:PySem.W.findIn K (.ref C) "__setattr__"=some (some (.builtin "object.__setattr__")))(mk:PySem.W.makesIn K C=true)(kc:PySem.W.keepIn K (.ref C)=true)(ni:PySem.W.findIn K (.ref C) "in_order"=some none)
  {CM:Addr}{g0 g1 g2 g3 g4 g5 g6 g7 g8 g9 g10 g11 g12 g13:Addr}{h0 h1 h2 h3 h4 h5 h6 h7 h8 h9 h10 h11 h12 h13:FuncData}{gI:Addr}{hI:FuncData}
  (aQ2:PySem.W.nsIn K mainGlobals "Machine"=some (some (.ref CM)))
  (mm0:MethAt K CM "step" "Machine.step" MC.s_step g0 h0)
  (mm1:MethAt K CM "go_on" "Machine.go_on" MC.s_go_on g1 h1)
  (mm2:MethAt K CM "enter" "Machine.enter" MC.s_enter g2 h2)
  (mm3:MethAt K CM "leave" "Machine.leave" MC.s_leave g3 h3)
  (mm4:MethAt K CM "end" "Machine.end" MC.s_end g4 h4)
  (mm5:MethAt K CM "collect" "Machine.collect" LR.s_collect g5 h5)
  (mm6:MethAt K CM "hung_on" "Machine.hung_on" LR.s_hung_on g6 h6)
  (mm7:MethAt K CM "hang_on" "Machine.hang_on" LR.s_hang_on g7 h7)
  (mm8:MethAt K CM "has_value" "Machine.has_value" MC.s_has_value g8 h8)
  (mm9:MethAt K CM "answer" "Machine.answer" MC.s_answer g9 h9)
  (mm10:MethAt K CM "frames" "Machine.frames" MC.s_frames g10 h10)
  (mm11:MethAt K CM "cells" "Machine.cells" MC.s_cells g11 h11)
  (mm12:MethAt K CM "rows_done" "Machine.rows_done" MC.s_rows_done g12 h12)
  (mm13:MethAt K CM "calls" "Machine.calls" MC.s_calls g13 h13)
  (mmI:MethAt K CM "__init__" "Machine.__init__" MC.s_minit gI hI)
  (pg2:PySem.W.plainGet K CM Str.empty=true)(hd2:PySem.W.hasDictIn K CM=true)(po2:PySem.W.plainOver K CM=true)(sa2:PySem.W.findIn K (.ref CM) "__setattr__"=some (some (.builtin "object.__setattr__")))(mk2:PySem.W.makesIn K CM=true)(kc2:PySem.W.keepIn K (.ref CM)=true)(n1_2:PySem.W.findIn K (.ref CM) "blocks"=some none)(n2_2:PySem.W.findIn K (.ref CM) "most"=some none)(n3_2:PySem.W.findIn K (.ref CM) "store"=some none)(n4_2:PySem.W.findIn K (.ref CM) "standing"=some none)(n5_2:PySem.W.findIn K (.ref CM) "outcome"=some none)(n6_2:PySem.W.findIn K (.ref CM) "rows_so_far"=some none)(n7_2:PySem.W.findIn K (.ref CM) "calls_so_far"=some none)
  (z_len:PySem.W.nsIn K mainGlobals "len"=some none)
  (z_list:PySem.W.nsIn K mainGlobals "list"=some none)
  (z_range:PySem.W.nsIn K mainGlobals "range"=some none)
  (z_isinstance:PySem.W.nsIn K mainGlobals "isinstance"=some none)
  (z_str:PySem.W.nsIn K mainGlobals "str"=some none)
  (z_tuple:PySem.W.nsIn K mainGlobals "tuple"=some none)
  (z_int:PySem.W.nsIn K mainGlobals "int"=some none)
  (z_bool:PySem.W.nsIn K mainGlobals "bool"=some none)
  (z_all:PySem.W.nsIn K mainGlobals "all"=some none)
  (z_reversed:PySem.W.nsIn K mainGlobals "reversed"=some none)
  (z_zip:PySem.W.nsIn K mainGlobals "zip"=some none)
  (z_sum:PySem.W.nsIn K mainGlobals "sum"=some none)
  (z_max:PySem.W.nsIn K mainGlobals "max"=some none)
  (z_min:PySem.W.nsIn K mainGlobals "min"=some none)
  (z_enumerate:PySem.W.nsIn K mainGlobals "enumerate"=some none)
  (z_abs:PySem.W.nsIn K mainGlobals "abs"=some none)(hcode0:cd2=.ref c):
  ∃fd:FuncData,(∀(s:Shared) (v:Value),BindsTo s fd ⟨[v],[]⟩ [("_law_script",v)])/\∀base:Heap,K.In base->base.Ns mainGlobals mg->TabsB [(c,Pt)] mg base->FnOk l.prog w K mg base CX0 10 fa fd ["_law_script"] (TQ K Pt):=by
 have e:=hfa.symm.trans (PySem.W.mg_of X G a42)
 cases e
 have B:CL.NoG mg:=⟨PySem.W.mg_none_of X G z_len,PySem.W.mg_none_of X G z_list,PySem.W.mg_none_of X G z_range,PySem.W.mg_none_of X G z_isinstance,PySem.W.mg_none_of X G z_str,PySem.W.mg_none_of X G z_tuple,PySem.W.mg_none_of X G z_int,PySem.W.mg_none_of X G z_bool,PySem.W.mg_none_of X G z_all⟩
 have B3:BV.NoG mg:=⟨PySem.W.mg_none_of X G z_len,PySem.W.mg_none_of X G z_list,PySem.W.mg_none_of X G z_reversed,PySem.W.mg_none_of X G z_range,PySem.W.mg_none_of X G z_zip,PySem.W.mg_none_of X G z_isinstance,PySem.W.mg_none_of X G z_str,PySem.W.mg_none_of X G z_tuple,PySem.W.mg_none_of X G z_sum,PySem.W.mg_none_of X G z_max,PySem.W.mg_none_of X G z_min,PySem.W.mg_none_of X G z_int,PySem.W.mg_none_of X G z_bool,PySem.W.mg_none_of X G z_enumerate,PySem.W.mg_none_of X G z_all⟩
 have BM:NM.NoG mg:=⟨PySem.W.mg_none_of X G z_len,PySem.W.mg_none_of X G z_min,PySem.W.mg_none_of X G z_abs,PySem.W.mg_none_of X G z_isinstance,PySem.W.mg_none_of X G z_tuple,PySem.W.mg_none_of X G z_int,PySem.W.mg_none_of X G z_bool⟩
 have m_GREATEST:=PySem.W.mg_of X G e_GREATEST
 have m_DEEPEST:=PySem.W.mg_of X G e_DEEPEST
 have TD_ROW_SIGNS:TopD w K pf_ROW_SIGNS CL.RS:=⟨⟨es_ROW_SIGNS,nes_ROW_SIGNS,lD_ROW_SIGNS,kD_ROW_SIGNS,pD_ROW_SIGNS⟩,oD_ROW_SIGNS⟩
 have m_ROW_SIGNS:=PySem.W.mg_of X G aD_ROW_SIGNS
 have F0:=d0.fn
 have b0:=bn3 (ps:=["root","parts_in","made"]) F0 rfl λ_ _ _ _ _ _ _ _ _=>rfl
 have m0:=PySem.W.mg_of X G d0.ns
 have k0:=d0.kp
 have F1:=d1.fn
 have b1:=bn1 (ps:=["value"]) F1 rfl λ_ _ _ _ _ _ _=>rfl
 have m1:=PySem.W.mg_of X G d1.ns
 have k1:=d1.kp
 have F3:=d3.fn
 have b3:=bn2 (ps:=["cells","value"]) F3 rfl λ_ _ _ _ _ _ _ _=>rfl
 have m3:=PySem.W.mg_of X G d3.ns
 have k3:=d3.kp
 have F4:=d4.fn
 have b4:=bn2 (ps:=["value","heads"]) F4 rfl λ_ _ _ _ _ _ _ _=>rfl
 have m4:=PySem.W.mg_of X G d4.ns
 have k4:=d4.kp
 have F5:=d5.fn
 have b5:=bn3 (ps:=["sign","a","b"]) F5 rfl λ_ _ _ _ _ _ _ _ _=>rfl
 have m5:=PySem.W.mg_of X G d5.ns
 have k5:=d5.kp
 have F6:=d6.fn
 have b6:=bn2 (ps:=["a","b"]) F6 rfl λ_ _ _ _ _ _ _ _=>rfl
 have m6:=PySem.W.mg_of X G d6.ns
 have k6:=d6.kp
 have F7:=d7.fn
 have b7:=bn3 (ps:=["sign","a","b"]) F7 rfl λ_ _ _ _ _ _ _ _ _=>rfl
 have m7:=PySem.W.mg_of X G d7.ns
 have k7:=d7.kp
 have F8:=d8.fn
 have b8:=bn1 (ps:=["number"]) F8 rfl λ_ _ _ _ _ _ _=>rfl
 have m8:=PySem.W.mg_of X G d8.ns
 have k8:=d8.kp
 have F9:=d9.fn
 have b9:=bn3 (ps:=["blocks","number","values"]) F9 rfl λ_ _ _ _ _ _ _ _ _=>rfl
 have m9:=PySem.W.mg_of X G d9.ns
 have k9:=d9.kp
 have F10:=d10.fn
 have b10:=bn3 (ps:=["cells","frame","row"]) F10 rfl λ_ _ _ _ _ _ _ _ _=>rfl
 have m10:=PySem.W.mg_of X G d10.ns
 have k10:=d10.kp
 have F11:=d11.fn
 have b11:=bn4 (ps:=["blocks","cells","frame","row"]) F11 rfl λ_ _ _ _ _ _ _ _ _ _=>rfl
 have m11:=PySem.W.mg_of X G d11.ns
 have k11:=d11.kp
 have F12:=d12.fn
 have b12:=bn3 (ps:=["frame","many_taken","values"]) F12 rfl λ_ _ _ _ _ _ _ _ _=>rfl
 have m12:=PySem.W.mg_of X G d12.ns
 have k12:=d12.kp
 have F13:=d13.fn
 have b13:=bn2 (ps:=["stack","many"]) F13 rfl λ_ _ _ _ _ _ _ _=>rfl
 have m13:=PySem.W.mg_of X G d13.ns
 have k13:=d13.kp
 have F14:=d14.fn
 have b14:=bn2 (ps:=["frame","sign"]) F14 rfl λ_ _ _ _ _ _ _ _=>rfl
 have m14:=PySem.W.mg_of X G d14.ns
 have k14:=d14.kp
 have F15:=d15.fn
 have b15:=bn3 (ps:=["cells","frame","word"]) F15 rfl λ_ _ _ _ _ _ _ _ _=>rfl
 have m15:=PySem.W.mg_of X G d15.ns
 have k15:=d15.kp
 have F16:=d16.fn
 have b16:=bn3 (ps:=["cells","frame","row"]) F16 rfl λ_ _ _ _ _ _ _ _ _=>rfl
 have m16:=PySem.W.mg_of X G d16.ns
 have k16:=d16.kp
 have F17:=d17.fn
 have b17:=bn2 (ps:=["frame","row"]) F17 rfl λ_ _ _ _ _ _ _ _=>rfl
 have m17:=PySem.W.mg_of X G d17.ns
 have k17:=d17.kp
 have F18:=d18.fn
 have b18:=bn3 (ps:=["frame","slot","value"]) F18 rfl λ_ _ _ _ _ _ _ _ _=>rfl
 have m18:=PySem.W.mg_of X G d18.ns
 have k18:=d18.kp
 have F19:=d19.fn
 have b19:=bn2 (ps:=["frame","many_rows"]) F19 rfl λ_ _ _ _ _ _ _ _=>rfl
 have m19:=PySem.W.mg_of X G d19.ns
 have k19:=d19.kp
 have F20:=d20.fn
 have b20:=bn2 (ps:=["frame","row"]) F20 rfl λ_ _ _ _ _ _ _ _=>rfl
 have m20:=PySem.W.mg_of X G d20.ns
 have k20:=d20.kp
 have F21:=d21.fn
 have b21:=bn2 (ps:=["_law_script","_law_k"]) F21 rfl λ_ _ _ _ _ _ _ _=>rfl
 have m21:=PySem.W.mg_of X G d21.ns
 have k21:=d21.kp
 have F22:=d22.fn
 have b22:=bn2 (ps:=["_law_found","_law_due_here"]) F22 rfl λ_ _ _ _ _ _ _ _=>rfl
 have m22:=PySem.W.mg_of X G d22.ns
 have k22:=d22.kp
 have F23:=d23.fn
 have b23:=bn1 (ps:=["_law_cell"]) F23 rfl λ_ _ _ _ _ _ _=>rfl
 have m23:=PySem.W.mg_of X G d23.ns
 have k23:=d23.kp
 have F24:=d24.fn
 have b24:=bn3 (ps:=["_law_cell","_law_many","_law_main"]) F24 rfl λ_ _ _ _ _ _ _ _ _=>rfl
 have m24:=PySem.W.mg_of X G d24.ns
 have k24:=d24.kp
 have F25:=d25.fn
 have b25:=bn3 (ps:=["_law_state","_law_kind","_law_cell"]) F25 rfl λ_ _ _ _ _ _ _ _ _=>rfl
 have m25:=PySem.W.mg_of X G d25.ns
 have k25:=d25.kp
 have F26:=d26.fn
 have b26:=bn3 (ps:=["_law_state","_law_kinds","_law_cell"]) F26 rfl λ_ _ _ _ _ _ _ _ _=>rfl
 have m26:=PySem.W.mg_of X G d26.ns
 have k26:=d26.kp
 have F27:=d27.fn
 have b27:=bn2 (ps:=["_law_state","_law_more"]) F27 rfl λ_ _ _ _ _ _ _ _=>rfl
 have m27:=PySem.W.mg_of X G d27.ns
 have k27:=d27.kp
 have F28:=d28.fn
 have b28:=bn2 (ps:=["_law_state","_law_more"]) F28 rfl λ_ _ _ _ _ _ _ _=>rfl
 have m28:=PySem.W.mg_of X G d28.ns
 have k28:=d28.kp
 have F29:=d29.fn
 have b29:=bn2 (ps:=["_law_state","_law_more"]) F29 rfl λ_ _ _ _ _ _ _ _=>rfl
 have m29:=PySem.W.mg_of X G d29.ns
 have k29:=d29.kp
 have F30:=d30.fn
 have b30:=bn2 (ps:=["_law_state","_law_more"]) F30 rfl λ_ _ _ _ _ _ _ _=>rfl
 have m30:=PySem.W.mg_of X G d30.ns
 have k30:=d30.kp
 have F31:=d31.fn
 have b31:=bn3 (ps:=["_law_state","_law_more","_law_heads_here"]) F31 rfl λ_ _ _ _ _ _ _ _ _=>rfl
 have m31:=PySem.W.mg_of X G d31.ns
 have k31:=d31.kp
 have F32:=d32.fn
 have b32:=bn3 (ps:=["_law_cells","_law_heads_here","_law_b"]) F32 rfl λ_ _ _ _ _ _ _ _ _=>rfl
 have m32:=PySem.W.mg_of X G d32.ns
 have k32:=d32.kp
 have F33:=d33.fn
 have b33:=bn1 (ps:=["_law_script"]) F33 rfl λ_ _ _ _ _ _ _=>rfl
 have m33:=PySem.W.mg_of X G d33.ns
 have k33:=d33.kp
 have F34:=d34.fn
 have b34:=bn1 (ps:=["_law_cells"]) F34 rfl λ_ _ _ _ _ _ _=>rfl
 have m34:=PySem.W.mg_of X G d34.ns
 have k34:=d34.kp
 have F35:=d35.fn
 have b35:=bn2 (ps:=["_law_frames","_law_heap_here"]) F35 rfl λ_ _ _ _ _ _ _ _=>rfl
 have m35:=PySem.W.mg_of X G d35.ns
 have k35:=d35.kp
 have F36:=d36.fn
 have b36:=bn5 (ps:=["_law_blocks","_law_frames","_law_heap_here","_law_counted","_law_most"]) F36 rfl λ_ _ _ _ _ _ _ _ _ _ _=>rfl
 have m36:=PySem.W.mg_of X G d36.ns
 have k36:=d36.kp
 have F37:=d37.fn
 have b37:=bn2 (ps:=["_law_machine","_law_k"]) F37 rfl λ_ _ _ _ _ _ _ _=>rfl
 have m37:=PySem.W.mg_of X G d37.ns
 have k37:=d37.kp
 have F38:=d38.fn
 have b38:=bn2 (ps:=["_law_machine","_law_bits"]) F38 rfl λ_ _ _ _ _ _ _ _=>rfl
 have m38:=PySem.W.mg_of X G d38.ns
 have k38:=d38.kp
 have F39:=d39.fn
 have b39:=bn5 (ps:=["_law_machine","_law_blocks","_law_most","_law_copies","_law_bits"]) F39 rfl λ_ _ _ _ _ _ _ _ _ _ _=>rfl
 have m39:=PySem.W.mg_of X G d39.ns
 have k39:=d39.kp
 have F40:=d40.fn
 have b40:=bn1 (ps:=["_law_thing"]) F40 rfl λ_ _ _ _ _ _ _=>rfl
 have m40:=PySem.W.mg_of X G d40.ns
 have k40:=d40.kp
 have F41:=d41.fn
 have b41:=bn1 (ps:=["_law_machine"]) F41 rfl λ_ _ _ _ _ _ _=>rfl
 have m41:=PySem.W.mg_of X G d41.ns
 have k41:=d41.kp
 have F2:=V4 (st:=PL.s_plain) l2 c2 k2
 have b2:=bn2 (ps:=["cells","value"]) F2 rfl λ_ _ _ _ _ _ _ _=>rfl
 have m2:=PySem.W.mg_of X G a2
 have F42:=V4 (st:=LR.s_law) l42 c42 k42
 have b42:=bn1 (ps:=["_law_script"]) F42 rfl λ_ _ _ _ _ _ _=>rfl
 have m42:=PySem.W.mg_of X G a42
 have FM0:=V4 (st:=CL.s_put) lM0 cM0 kM0
 have bM0:=bn2 (ps:=["self","cell"]) FM0 rfl λ_ _ _ _ _ _ _ _=>rfl
 have FM1:=V4 (st:=CL.s_at) lM1 cM1 kM1
 have bM1:=bn2 (ps:=["self","value"]) FM1 rfl λ_ _ _ _ _ _ _ _=>rfl
 have FM2:=V4 (st:=CL.s_many) lM2 cM2 kM2
 have bM2:=bn1 (ps:=["self"]) FM2 rfl λ_ _ _ _ _ _ _=>rfl
 have FM3:=V4 (st:=CL.s_told) lM3 cM3 kM3
 have bM3:=bn1 (ps:=["self"]) FM3 rfl λ_ _ _ _ _ _ _=>rfl
 have FI:=V4 (st:=CL.s_init) lI cI kI
 have bI:=bn1 (ps:=["self"]) FI rfl λ_ _ _ _ _ _ _=>rfl
 obtain⟨mf,md,u0,u1,u2,u3,v0,v1,v2,v3⟩:=dCZ fM0 fM1 fM2 fM3 (PySem.W.fnOf "put" "Cells.put" (G2 CL.s_put) (E5 CL.s_put) (A9 CL.s_put) .none kVM0 dcM0 pmM0 anM0 cdM0 ctM0) (PySem.W.fnOf "at" "Cells.at" (G2 CL.s_at) (E5 CL.s_at) (A9 CL.s_at) .none kVM1 dcM1 pmM1 anM1 cdM1 ctM1) (PySem.W.fnOf "many" "Cells.many" (G2 CL.s_many) (E5 CL.s_many) (A9 CL.s_many) .none kVM2 dcM2 pmM2 anM2 cdM2 ctM2) (PySem.W.fnOf "told" "Cells.told" (G2 CL.s_told) (E5 CL.s_told) (A9 CL.s_told) .none kVM3 dcM3 pmM3 anM3 cdM3 ctM3)
 have R0:Fun K "put" "Cells.put" CL.s_put (mf "put") (md "put"):=by rw[u0,v0];exact FM0
 have w0:Meth K C "put" (mf "put"):=by rw[u0];exact⟨aM0,jM0,kM0⟩
 have y100:Binds K (md "put") ["self","cell"] []:=by rw[v0];exact bM0
 have R1:Fun K "at" "Cells.at" CL.s_at (mf "at") (md "at"):=by rw[u1,v1];exact FM1
 have w1:Meth K C "at" (mf "at"):=by rw[u1];exact⟨aM1,jM1,kM1⟩
 have y101:Binds K (md "at") ["self","value"] []:=by rw[v1];exact bM1
 have R2:Fun K "many" "Cells.many" CL.s_many (mf "many") (md "many"):=by rw[u2,v2];exact FM2
 have w2:Meth K C "many" (mf "many"):=by rw[u2];exact⟨aM2,jM2,kM2⟩
 have y102:Binds K (md "many") ["self"] []:=by rw[v2];exact bM2
 have R3:Fun K "told" "Cells.told" CL.s_told (mf "told") (md "told"):=by rw[u3,v3];exact FM3
 have w3:Meth K C "told" (mf "told"):=by rw[u3];exact⟨aM3,jM3,kM3⟩
 have y103:Binds K (md "told") ["self"] []:=by rw[v3];exact bM3
 have RC:CL.RCls K C mf md:={cl:=⟨pg,hd,po,sa⟩,ni:=ni,m_put:=w0,m_at:=w1,m_many:=w2,m_told:=w3,b_put:=y100,b_at:=y101,b_many:=y102,b_told:=y103}
 have Fm0:=mm0.fn
 have bm0:=bn1 (ps:=["self"]) Fm0 rfl λ_ _ _ _ _ _ _=>rfl
 have Fm1:=mm1.fn
 have bm1:=bn2 (ps:=["self","told"]) Fm1 rfl λ_ _ _ _ _ _ _ _=>rfl
 have Fm2:=mm2.fn
 have bm2:=bn3 (ps:=["self","frame","row"]) Fm2 rfl λ_ _ _ _ _ _ _ _ _=>rfl
 have Fm3:=mm3.fn
 have bm3:=bn2 (ps:=["self","value"]) Fm3 rfl λ_ _ _ _ _ _ _ _=>rfl
 have Fm4:=mm4.fn
 have bm4:=bn2 (ps:=["self","outcome"]) Fm4 rfl λ_ _ _ _ _ _ _ _=>rfl
 have Fm5:=mm5.fn
 have bm5:=bn1 (ps:=["self"]) Fm5 rfl λ_ _ _ _ _ _ _=>rfl
 have Fm6:=mm6.fn
 have bm6:=bn1 (ps:=["self"]) Fm6 rfl λ_ _ _ _ _ _ _=>rfl
 have Fm7:=mm7.fn
 have bm7:=bn2 (ps:=["self","values"]) Fm7 rfl λ_ _ _ _ _ _ _ _=>rfl
 have Fm8:=mm8.fn
 have bm8:=bn1 (ps:=["self"]) Fm8 rfl λ_ _ _ _ _ _ _=>rfl
 have Fm9:=mm9.fn
 have bm9:=bn1 (ps:=["self"]) Fm9 rfl λ_ _ _ _ _ _ _=>rfl
 have Fm10:=mm10.fn
 have bm10:=bn1 (ps:=["self"]) Fm10 rfl λ_ _ _ _ _ _ _=>rfl
 have Fm11:=mm11.fn
 have bm11:=bn1 (ps:=["self"]) Fm11 rfl λ_ _ _ _ _ _ _=>rfl
 have Fm12:=mm12.fn
 have bm12:=bn1 (ps:=["self"]) Fm12 rfl λ_ _ _ _ _ _ _=>rfl
 have Fm13:=mm13.fn
 have bm13:=bn1 (ps:=["self"]) Fm13 rfl λ_ _ _ _ _ _ _=>rfl
 have FmI:=mmI.fn
 have bmI:=bn5 (ps:=["self","blocks","main","numbers","most"]) FmI rfl λ_ _ _ _ _ _ _ _ _ _ _=>rfl
 obtain⟨gf,gd,uu0,uu1,uu2,uu3,uu4,uu5,uu6,uu7,uu8,uu9,uu10,uu11,uu12,uu13,vv0,vv1,vv2,vv3,vv4,vv5,vv6,vv7,vv8,vv9,vv10,vv11,vv12,vv13⟩:=cNZ g0 g1 g2 g3 g4 g5 g6 g7 g8 g9 g10 g11 g12 g13 h0 h1 h2 h3 h4 h5 h6 h7 h8 h9 h10 h11 h12 h13
 have RM_step:Fun K "step" "Machine.step" MC.s_step (gf "step") (gd "step"):=by rw[uu0,vv0];exact Fm0
 have ww0:Meth K CM "step" (gf "step"):=by rw[uu0];exact mm0.me
 have yy0:Binds K (gd "step") ["self"] []:=by rw[vv0];exact bm0
 have RM_go_on:Fun K "go_on" "Machine.go_on" MC.s_go_on (gf "go_on") (gd "go_on"):=by rw[uu1,vv1];exact Fm1
 have ww1:Meth K CM "go_on" (gf "go_on"):=by rw[uu1];exact mm1.me
 have yy1:Binds K (gd "go_on") ["self","told"] []:=by rw[vv1];exact bm1
 have RM_enter:Fun K "enter" "Machine.enter" MC.s_enter (gf "enter") (gd "enter"):=by rw[uu2,vv2];exact Fm2
 have ww2:Meth K CM "enter" (gf "enter"):=by rw[uu2];exact mm2.me
 have yy2:Binds K (gd "enter") ["self","frame","row"] []:=by rw[vv2];exact bm2
 have RM_leave:Fun K "leave" "Machine.leave" MC.s_leave (gf "leave") (gd "leave"):=by rw[uu3,vv3];exact Fm3
 have ww3:Meth K CM "leave" (gf "leave"):=by rw[uu3];exact mm3.me
 have yy3:Binds K (gd "leave") ["self","value"] []:=by rw[vv3];exact bm3
 have RM_end:Fun K "end" "Machine.end" MC.s_end (gf "end") (gd "end"):=by rw[uu4,vv4];exact Fm4
 have ww4:Meth K CM "end" (gf "end"):=by rw[uu4];exact mm4.me
 have yy4:Binds K (gd "end") ["self","outcome"] []:=by rw[vv4];exact bm4
 have RM_collect:Fun K "collect" "Machine.collect" LR.s_collect (gf "collect") (gd "collect"):=by rw[uu5,vv5];exact Fm5
 have ww5:Meth K CM "collect" (gf "collect"):=by rw[uu5];exact mm5.me
 have yy5:Binds K (gd "collect") ["self"] []:=by rw[vv5];exact bm5
 have RM_hung_on:Fun K "hung_on" "Machine.hung_on" LR.s_hung_on (gf "hung_on") (gd "hung_on"):=by rw[uu6,vv6];exact Fm6
 have ww6:Meth K CM "hung_on" (gf "hung_on"):=by rw[uu6];exact mm6.me
 have yy6:Binds K (gd "hung_on") ["self"] []:=by rw[vv6];exact bm6
 have RM_hang_on:Fun K "hang_on" "Machine.hang_on" LR.s_hang_on (gf "hang_on") (gd "hang_on"):=by rw[uu7,vv7];exact Fm7
 have ww7:Meth K CM "hang_on" (gf "hang_on"):=by rw[uu7];exact mm7.me
 have yy7:Binds K (gd "hang_on") ["self","values"] []:=by rw[vv7];exact bm7
 have RM_has_value:Fun K "has_value" "Machine.has_value" MC.s_has_value (gf "has_value") (gd "has_value"):=by rw[uu8,vv8];exact Fm8
 have ww8:Meth K CM "has_value" (gf "has_value"):=by rw[uu8];exact mm8.me
 have yy8:Binds K (gd "has_value") ["self"] []:=by rw[vv8];exact bm8
 have RM_answer:Fun K "answer" "Machine.answer" MC.s_answer (gf "answer") (gd "answer"):=by rw[uu9,vv9];exact Fm9
 have ww9:Meth K CM "answer" (gf "answer"):=by rw[uu9];exact mm9.me
 have yy9:Binds K (gd "answer") ["self"] []:=by rw[vv9];exact bm9
 have RM_frames:Fun K "frames" "Machine.frames" MC.s_frames (gf "frames") (gd "frames"):=by rw[uu10,vv10];exact Fm10
 have ww10:Meth K CM "frames" (gf "frames"):=by rw[uu10];exact mm10.me
 have yy10:Binds K (gd "frames") ["self"] []:=by rw[vv10];exact bm10
 have RM_cells:Fun K "cells" "Machine.cells" MC.s_cells (gf "cells") (gd "cells"):=by rw[uu11,vv11];exact Fm11
 have ww11:Meth K CM "cells" (gf "cells"):=by rw[uu11];exact mm11.me
 have yy11:Binds K (gd "cells") ["self"] []:=by rw[vv11];exact bm11
 have RM_rows_done:Fun K "rows_done" "Machine.rows_done" MC.s_rows_done (gf "rows_done") (gd "rows_done"):=by rw[uu12,vv12];exact Fm12
 have ww12:Meth K CM "rows_done" (gf "rows_done"):=by rw[uu12];exact mm12.me
 have yy12:Binds K (gd "rows_done") ["self"] []:=by rw[vv12];exact bm12
 have RM_calls:Fun K "calls" "Machine.calls" MC.s_calls (gf "calls") (gd "calls"):=by rw[uu13,vv13];exact Fm13
 have ww13:Meth K CM "calls" (gf "calls"):=by rw[uu13];exact mm13.me
 have yy13:Binds K (gd "calls") ["self"] []:=by rw[vv13];exact bm13
 have RM:MC.MCls K CM gf gd:={cl:=⟨pg2,hd2,po2,sa2⟩,n1:=n1_2,n2:=n2_2,n3:=n3_2,n4:=n4_2,n5:=n5_2,n6:=n6_2,n7:=n7_2,m_step:=ww0,m_go_on:=ww1,m_enter:=ww2,m_leave:=ww3,m_end:=ww4,m_collect:=ww5,m_hung_on:=ww6,m_hang_on:=ww7,m_has_value:=ww8,m_answer:=ww9,m_frames:=ww10,m_cells:=ww11,m_rows_done:=ww12,m_calls:=ww13,b_step:=yy0,b_go_on:=yy1,b_enter:=yy2,b_leave:=yy3,b_end:=yy4,b_collect:=yy5,b_hung_on:=yy6,b_hang_on:=yy7,b_has_value:=yy8,b_answer:=yy9,b_frames:=yy10,b_cells:=yy11,b_rows_done:=yy12,b_calls:=yy13}
 have MKM:Mk K CM gI:=⟨mk2,mmI.me.1,mmI.me.2,kc2⟩
 have m_Machine:=PySem.W.mg_of X G aQ2
 refine⟨PySem.W.fnOf "law" "law" (G2 s_law) (E5 s_law) (A9 s_law) .none kV42 dc42 pm42 an42 cd42 ct42,λs v=> .of_eq rfl,λbase _ _ tbx=> ?_⟩
 have hcode:=hcode0
 have GM_init:=CL.ok_init (P:=l.prog) (w:=w) (mg:=mg) (base:=base) FI RC
 have GA:=λ(b:Heap)=>CL.ok_at (P:=l.prog) (w:=w) (mg:=mg) (base:=b) R1 RC
 have GP:=CL.ok_put (P:=l.prog) (w:=w) (mg:=mg) (base:=base) R0 B RC
 have GN:=CL.ok_many (P:=l.prog) (w:=w) (mg:=mg) (base:=base) R2 B RC
 have GT:=CL.ok_told (P:=l.prog) (w:=w) (mg:=mg) (base:=base) R3 B RC
 have MKC:Mk K C fI:=⟨mk,aI,jI,kc⟩
 have m_Cells:=PySem.W.mg_of X G aC
 have G_isP:=λ(b:Heap)=>PL.ok_is_cell (P:=l.prog) (w:=w) (mg:=mg) (base:=b) F1 B
 have Q0:=PL.ok_plain (P:=l.prog) (w:=w) (mg:=mg) (base:=base) F2 hcode (tbx.code _ (List.mem_singleton.mpr rfl)) (tbx.blt _ (List.mem_singleton.mpr rfl)) (λb=>BV.ok_built_up (P:=l.prog) (w:=w) (mg:=mg) (base:=b) F0 B3) m0 k0 b0 (λb=>PL.ok_heads_of (P:=l.prog) (w:=w) (mg:=mg) (base:=b) F3 RC (λk=>(GA b).mono (by omega)) (G_isP b) m1 k1 b1) m3 k3 b3 (λb o L us O=>PL.ok_with_heads (P:=l.prog) (w:=w) (mg:=mg) (base:=b) F4 (G_isP b) m1 k1 b1) m4 k4 b4
 have G_quo:=NM.ok_quotient_told (P:=l.prog) (w:=w) (mg:=mg) (base:=base) F6
 have G_out:=NM.ok_outcome (P:=l.prog) (w:=w) (mg:=mg) (base:=base) F7
 have G_bnd:=NM.ok_bounded (P:=l.prog) (w:=w) (mg:=mg) (base:=base) F8 BM m_GREATEST
 have G_two:=NM.ok_two_told (P:=l.prog) (w:=w) (mg:=mg) (base:=base) F5 ⟨_,_,G_quo,b6,k6,m6⟩ ⟨_,_,G_out,b7,k7,m7⟩ ⟨_,_,G_bnd,b8,k8,m8⟩
 have G_ent:=CL.ok_entered (P:=l.prog) (w:=w) (mg:=mg) (base:=base) F9 B
 have G_beh:=CL.ok_behind (P:=l.prog) (w:=w) (mg:=mg) (base:=base) F12 B
 have G_top:=CL.ok_top_values (P:=l.prog) (w:=w) (mg:=mg) (base:=base) F13 B
 have G_cal:=CL.ok_called (P:=l.prog) (w:=w) (mg:=mg) (base:=base) F11 B RC (GA base) ⟨_,_,G_ent,b9,k9,m9⟩ ⟨_,_,G_beh,b12,k12,m12⟩ ⟨_,_,G_top,b13,k13,m13⟩
 have G_td:=CL.ok_two_done (P:=l.prog) (w:=w) (mg:=mg) (base:=base) F14 ⟨_,_,G_two,b5,k5,m5⟩ ⟨_,_,G_beh,b12,k12,m12⟩
 have G_pd:=CL.ok_part_done (P:=l.prog) (w:=w) (mg:=mg) (base:=base) F15 RC (GA base) ⟨_,_,G_beh,b12,k12,m12⟩
 have G_nc:=CL.ok_with_new_cell (P:=l.prog) (w:=w) (mg:=mg) (base:=base) F16 RC GP ⟨_,_,G_beh,b12,k12,m12⟩ ⟨_,_,G_top,b13,k13,m13⟩
 have G_ws:=CL.ok_with_slot (P:=l.prog) (w:=w) (mg:=mg) (base:=base) F18
 have G_fu:=CL.ok_further (P:=l.prog) (w:=w) (mg:=mg) (base:=base) F19
 have G_np:=CL.ok_with_nothing_put (P:=l.prog) (w:=w) (mg:=mg) (base:=base) F17 ⟨_,_,G_beh,b12,k12,m12⟩ ⟨_,_,G_ws,b18,k18,m18⟩ ⟨_,_,G_fu,b19,k19,m19⟩
 have G_vp:=CL.ok_value_put (P:=l.prog) (w:=w) (mg:=mg) (base:=base) F20
 have G_own:=CL.ok_own_done (P:=l.prog) (w:=w) (mg:=mg) (base:=base) F10 TD_ROW_SIGNS m_ROW_SIGNS ⟨_,_,G_td,b14,k14,m14⟩ ⟨_,_,G_pd,b15,k15,m15⟩ ⟨_,_,G_nc,b16,k16,m16⟩ ⟨_,_,G_np,b17,k17,m17⟩ ⟨_,_,G_vp,b20,k20,m20⟩ ⟨_,_,G_beh,b12,k12,m12⟩
 have N_end:=MC.ok_end (P:=l.prog) (w:=w) (mg:=mg) (base:=base) (C:=C) RM_end RM
 have N_hv:=MC.ok_has_value (P:=l.prog) (w:=w) (mg:=mg) (base:=base) RM_has_value RM
 have N_rd:=MC.ok_rows_done (P:=l.prog) (w:=w) (mg:=mg) (base:=base) (C:=C) RM_rows_done RM
 have N_cs:=MC.ok_calls (P:=l.prog) (w:=w) (mg:=mg) (base:=base) (C:=C) RM_calls RM
 have N_fr:=MC.ok_frames (P:=l.prog) (w:=w) (mg:=mg) (base:=base) (C:=C) RM_frames B RM
 have N_ce:=MC.ok_cells (P:=l.prog) (w:=w) (mg:=mg) (base:=base) (C:=C) RM_cells RM RC GT
 have N_go:=MC.ok_go_on (P:=l.prog) (w:=w) (mg:=mg) (base:=base) RM_go_on RM N_end
 have N_lv:=MC.ok_leave (P:=l.prog) (w:=w) (mg:=mg) (base:=base) RM_leave B RM N_end
 have N_en:=MC.ok_enter (P:=l.prog) (w:=w) (mg:=mg) (base:=base) RM_enter B RM ⟨_,m_DEEPEST⟩ N_end ⟨_,_,G_cal,b11,k11,m11⟩
 have N_st:=MC.ok_step (P:=l.prog) (w:=w) (mg:=mg) (base:=base) RM_step RM N_lv N_en N_go ⟨_,_,G_own,b10,k10,m10⟩
 have N_an:=MC.ok_answer (P:=l.prog) (w:=w) (mg:=mg) (base:=base) RM_answer RM N_hv ⟨_,_,Q0,b2,k2,m2⟩
 have N_in:=MC.ok_minit (P:=l.prog) (w:=w) (mg:=mg) (base:=base) FmI B RM MKC m_Cells GM_init bI ⟨_,_,G_ent,b9,k9,m9⟩
 have G_cell:=K67.ok_law_cell_at (P:=l.prog) (w:=w) (mg:=mg) (base:=base) F21 B
 have G_same:=K67.ok_law_sameD (P:=l.prog) (w:=w) (mg:=mg) (base:=base) F22 B b22 k22 m22
 have G_num:=K67.ok_law_number (P:=l.prog) (w:=w) (mg:=mg) (base:=base) F23
 have G_push:=PG.ok_law_push (P:=l.prog) (w:=w) (mg:=mg) (base:=base) F25 B3 ⟨_,_,G_num,b23,k23,m23⟩
 have G_want:=PG.ok_law_want (P:=l.prog) (w:=w) (mg:=mg) (base:=base) F26 B3 ⟨_,_,G_push,b25,k25,m25⟩
 have G_reckon:=PG.ok_law_reckon (P:=l.prog) (w:=w) (mg:=mg) (base:=base) F27 ⟨_,_,G_want,b26,k26,m26⟩
 have G_listed:=PG.ok_law_listed (P:=l.prog) (w:=w) (mg:=mg) (base:=base) F28 ⟨_,_,G_push,b25,k25,m25⟩ ⟨_,_,G_want,b26,k26,m26⟩
 have G_branch:=PG.ok_law_branch (P:=l.prog) (w:=w) (mg:=mg) (base:=base) F29 ⟨_,_,G_push,b25,k25,m25⟩ ⟨_,_,G_want,b26,k26,m26⟩
 have G_slotted:=PG.ok_law_slotted (P:=l.prog) (w:=w) (mg:=mg) (base:=base) F30 B3
 have G_calling:=λhs=>PG.ok_law_calling (P:=l.prog) (w:=w) (mg:=mg) (base:=base) hs F31 B3 ⟨_,_,G_num,b23,k23,m23⟩ ⟨_,_,G_want,b26,k26,m26⟩
 have G_heads:=PG.ok_law_heads (P:=l.prog) (w:=w) (mg:=mg) (base:=base) F24 B3
 have G_block:=PG.block_any λhs=>PG.ok_law_block (P:=l.prog) (w:=w) (mg:=mg) (base:=base) hs F32 B3 ⟨_,_,G_num,b23,k23,m23⟩ ⟨_,_,G_want,b26,k26,m26⟩ ⟨_,_,G_reckon,b27,k27,m27⟩ ⟨_,_,G_listed,b28,k28,m28⟩ ⟨_,_,G_branch,b29,k29,m29⟩ ⟨_,_,G_slotted,b30,k30,m30⟩ ⟨_,_,(G_calling hs),b31,k31,m31⟩
 have G_prog:=PG.ok_law_program (P:=l.prog) (w:=w) (mg:=mg) (base:=base) F33 B3 ⟨_,_,G_cell,b21,k21,m21⟩ ⟨_,_,G_num,b23,k23,m23⟩ ⟨_,_,G_heads,b24,k24,m24⟩ ⟨_,_,G_block,b32,k32,m32⟩
 have L_heap:=LR.ok_law_heap (P:=l.prog) (w:=w) (mg:=mg) (base:=base) F34 RC MKC m_Cells GM_init bI GP
 have L_back:=LR.ok_law_back (P:=l.prog) (w:=w) (mg:=mg) (base:=base) F35 B ⟨_,_,Q0,b2,k2,m2⟩
 have L_due:=LR.ok_law_due (P:=l.prog) (w:=w) (mg:=mg) (base:=base) F36 B ⟨_,_,L_back,b35,k35,m35⟩ ⟨_,_,G_own,b10,k10,m10⟩ ⟨_,_,G_cal,b11,k11,m11⟩
 have L_asked:=LR.ok_law_asked (P:=l.prog) (w:=w) (mg:=mg) (base:=base) F37 RM N_fr N_ce N_rd N_cs N_an
 have L_seen:=LR.ok_law_seen (P:=l.prog) (w:=w) (mg:=mg) (base:=base) F38 B ⟨_,_,L_asked,b37,k37,m37⟩
 have L_step:=LR.ok_law_step (P:=l.prog) (w:=w) (mg:=mg) (base:=base) F39 B3 B.int_ RM RC GT N_st ⟨_,_,L_seen,b38,k38,m38⟩ ⟨_,_,L_heap,b34,k34,m34⟩ ⟨_,_,L_due,b36,k36,m36⟩ ⟨_,_,(G_same 5),b22,k22,m22⟩
 have L_cop:=LR.ok_law_copied (P:=l.prog) (w:=w) (mg:=mg) (base:=base) F40 B b40 k40 m40
 have L_over:=LR.ok_law_over (P:=l.prog) (w:=w) (mg:=mg) (base:=base) F41 B3 RM N_st N_rd N_an ⟨_,_,(L_cop 4),b40,k40,m40⟩ ⟨_,_,(G_same 5),b22,k22,m22⟩
 exact LR.ok_law (P:=l.prog) (w:=w) (mg:=mg) (base:=base) F42 B3 RM MKM m_Machine N_in bmI N_fr N_ce N_rd N_cs N_an ⟨_,_,(G_same 5),b22,k22,m22⟩ ⟨_,_,G_cell,b21,k21,m21⟩ ⟨_,_,G_prog,b33,k33,m33⟩ ⟨_,_,L_over,b41,k41,m41⟩ ⟨_,_,L_step,b39,k39,m39⟩
theorem walk{l:PySem.W.OpenLaw}{q:Program}{loose:List Str}{XP:(Str->Option Value)->Heap->Prop}{YP:World->Heap->Prop}{d:DefRec}{K:Params->PySem.W.Frag}{c Pt:Addr}(hn:l.most=some 63)(hdf:d.params.defaults=[])
  (hY:∀(w:World) (h:Heap),YP w h->(K w.params).In h)
  (hT:∀(w:World) (lo:List Str) (mean:ExcName->Option Value) (mg mb:Str->Option Value) (h:Heap),PyProof.Rows.Top q lo mean mg mb h->(K w.params).In h->PySem.W.CodeHd h c Pt/\h.get? Pt=some (PySem.W.tabObj #[]))(hK:∀w:World,PySem.W.noTabs (K w.params)=true)
  (F:∀(w:World) (mg:Str->Option Value) (fa:Addr) (h:Heap),(K w.params).In h->h.Ns mainGlobals mg->mg d.name=some (.ref fa)->
   ∃fd:FuncData,(∀(s:Shared) (u:Value),BindsTo s fd ⟨[u],[]⟩ [("_law_script",u)])/\∀base:Heap,(K w.params).In base->base.Ns mainGlobals mg->TabsB [(c,Pt)] mg base->FnOk l.prog w (K w.params) mg base CX0 10 fa fd ["_law_script"] (TQ (K w.params) Pt)):
  PySem.W.WalkO q loose XP YP l.row.toRowW d [] (λf vs=>PySem.call f vs):=
 L2.walk_ofKT (n:=63) (k:=10) (x:="_law_script") (CX:=CX0) (sp:=λK=>TQ K Pt) (tabs:=[(c,Pt)]) hn (by decide) hdf ⟨rfl,by decide,by decide⟩ hY (λw lo mean mg mb h T X q hq=>by
   have e:=List.mem_singleton.mp hq
   subst e
   exact hT w lo mean mg mb h T X) hK F (λ_ H a ns hl hO hS=>⟨a,ns,rfl,hS,hl,hO.tab (c,Pt) (List.mem_singleton.mpr rfl),λ_=>rfl⟩) λ_ _ _ _ z=>z
end LR
open PySem PySem.W PyProof.Rows
set_option maxRecDepth 100000 in
set_option maxHeartbeats 0 in
theorem PySem.Challenge.cw_speakmill_k65_each_row_holds : PySem.Challenge.rw_speakmill_k65_each_row.Holds := by
 w_on;o_law;k_head;(case hw=>w_witness2)
 k_fill
 refine LR.walk (l:=PySem.Challenge.rw_speakmill_k65_each_row) rfl rfl (c:=88) (Pt:=84) (λw h Y=>PySem.W.km_in_of Y) ?tabsT ?tabsN ?F
 case tabsT=>exact λw lo mean mg mb h T X=>PySem.W.tab_of (x:="plain") T X rfl (by kernel_rfl)
 case tabsN=>intro w;kernel_rfl
 case F=>
  intro w mg fa h KX G hmg
  refine' LR.all_mk KX G hmg ?d0 ?d1 ?d3 ?d4 ?d5 ?d6 ?d7 ?d8 ?d9 ?d10 ?d11 ?d12 ?d13 ?d14 ?d15 ?d16 ?d17 ?d18 ?d19 ?d20 ?d21 ?d22 ?d23 ?d24 ?d25 ?d26 ?d27 ?d28 ?d29 ?d30 ?d31 ?d32 ?d33 ?d34 ?d35 ?d36 ?d37 ?d38 ?d39 ?d40 ?d41 ?a2 ?l2 ?c2 ?k2 ?a42 ?l42 ?c42 ?k42 ?e_GREATEST ?e_DEEPEST ?aD_ROW_SIGNS ?lD_ROW_SIGNS ?kD_ROW_SIGNS ?pD_ROW_SIGNS ?oD_ROW_SIGNS ?aC ?aM0 ?lM0 ?cM0 ?kM0 ?jM0 ?aM1 ?lM1 ?cM1 ?kM1 ?jM1 ?aM2 ?lM2 ?cM2 ?kM2 ?jM2 ?aM3 ?lM3 ?cM3 ?kM3 ?jM3 ?aI ?lI ?cI ?kI ?jI ?pg ?hd ?po ?sa ?mk ?kc ?ni ?aQ2 ?mm0 ?mm1 ?mm2 ?mm3 ?mm4 ?mm5 ?mm6 ?mm7 ?mm8 ?mm9 ?mm10 ?mm11 ?mm12 ?mm13 ?mmI ?pg2 ?hd2 ?po2 ?sa2 ?mk2 ?kc2 ?n1_2 ?n2_2 ?n3_2 ?n4_2 ?n5_2 ?n6_2 ?n7_2 ?z_len ?z_list ?z_range ?z_isinstance ?z_str ?z_tuple ?z_int ?z_bool ?z_all ?z_reversed ?z_zip ?z_sum ?z_max ?z_min ?z_enumerate ?z_abs ?hcode0
  (case d0=>exact⟨_,_,_,_,_,_,_,_,_,rfl,by k_is,by k_is,by k_is,by k_is⟩)
  (case d1=>exact⟨_,_,_,_,_,_,_,_,_,rfl,by k_is,by k_is,by k_is,by k_is⟩)
  (case d3=>exact⟨_,_,_,_,_,_,_,_,_,rfl,by k_is,by k_is,by k_is,by k_is⟩)
  (case d4=>exact⟨_,_,_,_,_,_,_,_,_,rfl,by k_is,by k_is,by k_is,by k_is⟩)
  (case d5=>exact⟨_,_,_,_,_,_,_,_,_,rfl,by k_is,by k_is,by k_is,by k_is⟩)
  (case d6=>exact⟨_,_,_,_,_,_,_,_,_,rfl,by k_is,by k_is,by k_is,by k_is⟩)
  (case d7=>exact⟨_,_,_,_,_,_,_,_,_,rfl,by k_is,by k_is,by k_is,by k_is⟩)
  (case d8=>exact⟨_,_,_,_,_,_,_,_,_,rfl,by k_is,by k_is,by k_is,by k_is⟩)
  (case d9=>exact⟨_,_,_,_,_,_,_,_,_,rfl,by k_is,by k_is,by k_is,by k_is⟩)
  (case d10=>exact⟨_,_,_,_,_,_,_,_,_,rfl,by k_is,by k_is,by k_is,by k_is⟩)
  (case d11=>exact⟨_,_,_,_,_,_,_,_,_,rfl,by k_is,by k_is,by k_is,by k_is⟩)
  (case d12=>exact⟨_,_,_,_,_,_,_,_,_,rfl,by k_is,by k_is,by k_is,by k_is⟩)
  (case d13=>exact⟨_,_,_,_,_,_,_,_,_,rfl,by k_is,by k_is,by k_is,by k_is⟩)
  (case d14=>exact⟨_,_,_,_,_,_,_,_,_,rfl,by k_is,by k_is,by k_is,by k_is⟩)
  (case d15=>exact⟨_,_,_,_,_,_,_,_,_,rfl,by k_is,by k_is,by k_is,by k_is⟩)
  (case d16=>exact⟨_,_,_,_,_,_,_,_,_,rfl,by k_is,by k_is,by k_is,by k_is⟩)
  (case d17=>exact⟨_,_,_,_,_,_,_,_,_,rfl,by k_is,by k_is,by k_is,by k_is⟩)
  (case d18=>exact⟨_,_,_,_,_,_,_,_,_,rfl,by k_is,by k_is,by k_is,by k_is⟩)
  (case d19=>exact⟨_,_,_,_,_,_,_,_,_,rfl,by k_is,by k_is,by k_is,by k_is⟩)
  (case d20=>exact⟨_,_,_,_,_,_,_,_,_,rfl,by k_is,by k_is,by k_is,by k_is⟩)
  (case d21=>exact⟨_,_,_,_,_,_,_,_,_,rfl,by k_is,by k_is,by k_is,by k_is⟩)
  (case d22=>exact⟨_,_,_,_,_,_,_,_,_,rfl,by k_is,by k_is,by k_is,by k_is⟩)
  (case d23=>exact⟨_,_,_,_,_,_,_,_,_,rfl,by k_is,by k_is,by k_is,by k_is⟩)
  (case d24=>exact⟨_,_,_,_,_,_,_,_,_,rfl,by k_is,by k_is,by k_is,by k_is⟩)
  (case d25=>exact⟨_,_,_,_,_,_,_,_,_,rfl,by k_is,by k_is,by k_is,by k_is⟩)
  (case d26=>exact⟨_,_,_,_,_,_,_,_,_,rfl,by k_is,by k_is,by k_is,by k_is⟩)
  (case d27=>exact⟨_,_,_,_,_,_,_,_,_,rfl,by k_is,by k_is,by k_is,by k_is⟩)
  (case d28=>exact⟨_,_,_,_,_,_,_,_,_,rfl,by k_is,by k_is,by k_is,by k_is⟩)
  (case d29=>exact⟨_,_,_,_,_,_,_,_,_,rfl,by k_is,by k_is,by k_is,by k_is⟩)
  (case d30=>exact⟨_,_,_,_,_,_,_,_,_,rfl,by k_is,by k_is,by k_is,by k_is⟩)
  (case d31=>exact⟨_,_,_,_,_,_,_,_,_,rfl,by k_is,by k_is,by k_is,by k_is⟩)
  (case d32=>exact⟨_,_,_,_,_,_,_,_,_,rfl,by k_is,by k_is,by k_is,by k_is⟩)
  (case d33=>exact⟨_,_,_,_,_,_,_,_,_,rfl,by k_is,by k_is,by k_is,by k_is⟩)
  (case d34=>exact⟨_,_,_,_,_,_,_,_,_,rfl,by k_is,by k_is,by k_is,by k_is⟩)
  (case d35=>exact⟨_,_,_,_,_,_,_,_,_,rfl,by k_is,by k_is,by k_is,by k_is⟩)
  (case d36=>exact⟨_,_,_,_,_,_,_,_,_,rfl,by k_is,by k_is,by k_is,by k_is⟩)
  (case d37=>exact⟨_,_,_,_,_,_,_,_,_,rfl,by k_is,by k_is,by k_is,by k_is⟩)
  (case d38=>exact⟨_,_,_,_,_,_,_,_,_,rfl,by k_is,by k_is,by k_is,by k_is⟩)
  (case d39=>exact⟨_,_,_,_,_,_,_,_,_,rfl,by k_is,by k_is,by k_is,by k_is⟩)
  (case d40=>exact⟨_,_,_,_,_,_,_,_,_,rfl,by k_is,by k_is,by k_is,by k_is⟩)
  (case d41=>exact⟨_,_,_,_,_,_,_,_,_,rfl,by k_is,by k_is,by k_is,by k_is⟩)
  (case a2=>k_is)
  (case l2=>k_is)
  (case c2=>k_is)
  (case k2=>k_is)
  (case a42=>k_is)
  (case l42=>k_is)
  (case c42=>k_is)
  (case k42=>k_is)
  (case e_GREATEST=>k_is)
  (case e_DEEPEST=>k_is)
  (case aD_ROW_SIGNS=>k_is)
  (case lD_ROW_SIGNS=>k_is)
  (case kD_ROW_SIGNS=>k_keys)
  (case pD_ROW_SIGNS=>repeat (first|exact .nil|refine .cons ⟨⟨_,rfl⟩,⟨_,rfl⟩⟩ ?_))
  (case oD_ROW_SIGNS=>decide)
  (case aC=>k_is)
  (case aM0=>k_is)
  (case lM0=>k_is)
  (case cM0=>k_is)
  (case kM0=>k_is)
  (case jM0=>k_is)
  (case aM1=>k_is)
  (case lM1=>k_is)
  (case cM1=>k_is)
  (case kM1=>k_is)
  (case jM1=>k_is)
  (case aM2=>k_is)
  (case lM2=>k_is)
  (case cM2=>k_is)
  (case kM2=>k_is)
  (case jM2=>k_is)
  (case aM3=>k_is)
  (case lM3=>k_is)
  (case cM3=>k_is)
  (case kM3=>k_is)
  (case jM3=>k_is)
  (case aI=>k_is)
  (case lI=>k_is)
  (case cI=>k_is)
  (case kI=>k_is)
  (case jI=>k_is)
  (case pg=>k_is)
  (case hd=>k_is)
  (case po=>k_is)
  (case sa=>k_is)
  (case mk=>k_is)
  (case kc=>k_is)
  (case ni=>k_is)
  (case aQ2=>k_is)
  (case mm0=>exact⟨_,_,_,_,_,_,_,_,_,rfl,by k_is,by k_is,by k_is,by k_is,by k_is⟩)
  (case mm1=>exact⟨_,_,_,_,_,_,_,_,_,rfl,by k_is,by k_is,by k_is,by k_is,by k_is⟩)
  (case mm2=>exact⟨_,_,_,_,_,_,_,_,_,rfl,by k_is,by k_is,by k_is,by k_is,by k_is⟩)
  (case mm3=>exact⟨_,_,_,_,_,_,_,_,_,rfl,by k_is,by k_is,by k_is,by k_is,by k_is⟩)
  (case mm4=>exact⟨_,_,_,_,_,_,_,_,_,rfl,by k_is,by k_is,by k_is,by k_is,by k_is⟩)
  (case mm5=>exact⟨_,_,_,_,_,_,_,_,_,rfl,by k_is,by k_is,by k_is,by k_is,by k_is⟩)
  (case mm6=>exact⟨_,_,_,_,_,_,_,_,_,rfl,by k_is,by k_is,by k_is,by k_is,by k_is⟩)
  (case mm7=>exact⟨_,_,_,_,_,_,_,_,_,rfl,by k_is,by k_is,by k_is,by k_is,by k_is⟩)
  (case mm8=>exact⟨_,_,_,_,_,_,_,_,_,rfl,by k_is,by k_is,by k_is,by k_is,by k_is⟩)
  (case mm9=>exact⟨_,_,_,_,_,_,_,_,_,rfl,by k_is,by k_is,by k_is,by k_is,by k_is⟩)
  (case mm10=>exact⟨_,_,_,_,_,_,_,_,_,rfl,by k_is,by k_is,by k_is,by k_is,by k_is⟩)
  (case mm11=>exact⟨_,_,_,_,_,_,_,_,_,rfl,by k_is,by k_is,by k_is,by k_is,by k_is⟩)
  (case mm12=>exact⟨_,_,_,_,_,_,_,_,_,rfl,by k_is,by k_is,by k_is,by k_is,by k_is⟩)
  (case mm13=>exact⟨_,_,_,_,_,_,_,_,_,rfl,by k_is,by k_is,by k_is,by k_is,by k_is⟩)
  (case mmI=>exact⟨_,_,_,_,_,_,_,_,_,rfl,by k_is,by k_is,by k_is,by k_is,by k_is⟩)
  (case pg2=>k_is)
  (case hd2=>k_is)
  (case po2=>k_is)
  (case sa2=>k_is)
  (case mk2=>k_is)
  (case kc2=>k_is)
  (case n1_2=>k_is)
  (case n2_2=>k_is)
  (case n3_2=>k_is)
  (case n4_2=>k_is)
  (case n5_2=>k_is)
  (case n6_2=>k_is)
  (case n7_2=>k_is)
  (case z_len=>k_is)
  (case z_list=>k_is)
  (case z_range=>k_is)
  (case z_isinstance=>k_is)
  (case z_str=>k_is)
  (case z_tuple=>k_is)
  (case z_int=>k_is)
  (case z_bool=>k_is)
  (case z_all=>k_is)
  (case z_reversed=>k_is)
  (case z_zip=>k_is)
  (case z_sum=>k_is)
  (case z_max=>k_is)
  (case z_min=>k_is)
  (case z_enumerate=>k_is)
  (case z_abs=>k_is)
  (case hcode0=>rfl)
end
