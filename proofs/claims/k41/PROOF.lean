import PyProof.Rows.All
import Wide.All
import OpenK.AllK
import Wide.FinOn
import Lean
import PyProof.EqAt
import PyProof.EqKinds
import PyProof.TupleCall
import PyProof.MaxThree
import PyProof.IsRules
import PyProof.SumAny
import PySem.Challenge.RW_speakmill_k41_one_state_leads_on
set_option Elab.async false
set_option linter.all false
set_option maxRecDepth 100000
set_option maxHeartbeats 8000000
set_option compiler.extract_closed false
set_option genSizeOf false
set_option genSizeOfSpec false
local macro_rules | `(tactic| omega) => `(tactic| lia)
noncomputable section
open List (all_eq_true any_cons append_nil cons_ne_nil drop_eq_nil_of_le find?_append find?_cons flatten_cons forIn_cons forIn_nil getElem?_map getElem?_reverse getElem_mem length_append length_cons length_drop length_map length_nil length_replicate length_reverse length_take lookup_cons map_append map_cons mem_append mem_append_left mem_append_right mem_cons mem_cons_of_mem mem_cons_self mem_iff_getElem? mem_map mem_of_getElem? mem_range nodup_cons not_mem_nil replicate_succ reverse_cons size_toArray sum_cons take_length take_of_length_le)
open Nat (le_add_right le_max_left le_max_right le_succ le_succ_of_le lt_irrefl lt_of_le_of_lt lt_of_lt_of_le lt_succ_of_lt min_eq_left min_eq_right min_self ne_of_lt succ_le_succ succ_pos zero_le)
open PySem.Heap (get?_push_size get?_update_other get?_update_self lt_size)
open Option (map_eq_some_iff map_some ne_none_iff_exists')
open PySem.W (codeIn findIn fnOf kia_one kia_tup kitAny kitOne kitx_dict kitx_list lookIn mg_of)
open PyProof.Rows (callWith_type1)
noncomputable abbrev bZ:=@PySem.wpAny_bind
noncomputable abbrev pZ:=@PySem.wpAny_pure
noncomputable abbrev gZ:=@PySem.Heap.get?_push_of_some
noncomputable abbrev nZ:=Bool.false_ne_true
noncomputable abbrev FZ:=PySem.W.Frag
noncomputable abbrev kZ:=@PySem.W.keepIn
noncomputable abbrev cZ{α:Type}{a b:α}{l:List α}:=(mem_cons (a:=a) (b:=b) (l:=l)).mp
noncomputable abbrev sZ{α:Type}{a b:α}:=(List.mem_singleton (a:=a) (b:=b)).mp
namespace _L
open PySem PySem.Spec PyProof.Rows
noncomputable abbrev Key:=Sum Int Str
noncomputable def JX:Key->Value->Bool
 | .inl k,v=>Value.isInt k v
 | .inr x,v=>Value.isStrOf x v
noncomputable def dlZ(w:World):Key->Int
 | .inl k=>hashInt k
 | .inr x=>hashStr w x
theorem N0:∀ {k:Key} {v:Value},JX k v=true->(∃i t,k=Sum.inl i/\v=Value.int i t)\/(∃x t,k=Sum.inr x/\v=Value.str x t)
 | .inl i,v,h=>by
  obtain⟨t,e⟩:=Value.isInt_shape (k:=i) (v:=v) h;exact .inl ⟨i,t,rfl,e⟩
 | .inr x,v,h=>by
  obtain⟨t,e⟩:=Value.isStrOf_shape (x:=x) (v:=v) h;exact .inr ⟨x,t,rfl,e⟩
theorem TX(i:Int)(t:Tok):JX (.inl i) (.int i t)=true:=by simp[JX,Value.isInt]
theorem UK(x:Str)(t:Tok):JX (.inr x) (.str x t)=true:=by simp[JX,Value.isStrOf]
theorem b7Z(a b:Int):decide ((Sum.inl a:Key)=Sum.inl b)=(a==b):=by
 by_cases e:a=b
 ·subst e;simp
 ·have h:¬(Sum.inl a:Key)=Sum.inl b:=λq=>e (Sum.inl.inj q);rw[decide_eq_false h];exact(beq_eq_false_iff_ne.mpr e).symm
theorem btZ(a b:Str):decide ((Sum.inr a:Key)=Sum.inr b)=decide (a=b):=by
 by_cases e:a=b
 ·subst e;simp
 ·have h:¬(Sum.inr a:Key)=Sum.inr b:=λq=>e (Sum.inr.inj q);rw[decide_eq_false h,decide_eq_false e]
theorem b8Z(a:Int)(b:Str):decide ((Sum.inl a:Key)=Sum.inr b)=false:=decide_eq_false (λq=>nomatch q)
theorem bzZ(a:Str)(b:Int):decide ((Sum.inr a:Key)=Sum.inl b)=false:=decide_eq_false (λq=>nomatch q)
noncomputable def J8(prog:Program)(w:World):PySem.KeyKind prog w Key where
 is:=JX
 hash:=dlZ w
 inj:=λv a b ha hb=>by
  rcases N0 ha with⟨i,t,rfl,rfl⟩|⟨x,t,rfl,rfl⟩
  ·rcases N0 hb with⟨j,u,rfl,e⟩|⟨y,u,rfl,e⟩
   ·injection e with e1 _;rw[e1]
   ·exact nomatch e
  ·rcases N0 hb with⟨j,u,rfl,e⟩|⟨y,u,rfl,e⟩
   ·exact nomatch e
   ·injection e with e1 _;rw[e1]
 byValue:=λk v h=>by
  rcases N0 h with⟨i,t,rfl,rfl⟩|⟨x,t,rfl,rfl⟩<;>rfl
 pyHash:=λhv h=>by
  rcases N0 hv with⟨i,t,rfl,rfl⟩|⟨x,t,rfl,rfl⟩
  ·exact wpAny_pyHash_int h
  ·exact wpAny_pyHash_str h
 eqBool:=λhu hv h=>by
  rcases N0 hu with⟨i,t,rfl,rfl⟩|⟨x,t,rfl,rfl⟩
  ·rcases N0 hv with⟨j,u,rfl,rfl⟩|⟨y,u,rfl,rfl⟩
   ·rw[b7Z]at h;exact wpAny_eqBool_int h
   ·rw[b8Z]at h;exact SeqAt.EqAt.int_str i t y u _ _ _ _ h
  ·rcases N0 hv with⟨j,u,rfl,rfl⟩|⟨y,u,rfl,rfl⟩
   ·rw[bzZ]at h;exact SeqAt.EqAt.str_int x t j u _ _ _ _ h
   ·rw[btZ]at h;exact wpAny_eqBool_str h
 «strs»:=λk x t v h=>by
  rcases N0 h with⟨i,u,rfl,e⟩|⟨y,u,rfl,e⟩
  ·exact nomatch e
  ·injection e with e1 _
   subst e1;cases v<;>rfl
theorem NB(prog:Program)(w:World)(i:Int)(t:Tok):(J8 prog w).is (.inl i) (.int i t)=true:=TX i t
theorem NT(prog:Program)(w:World)(x:Str)(t:Tok):(J8 prog w).is (.inr x) (.str x t)=true:=UK x t
inductive V where
 |non|bl (b:Bool)|int (i:Int)|str (x:Str)|byt (b:Array UInt8)|flt (b:UInt64)|ref (a:Addr)|ty (n:String)
 deriving DecidableEq
noncomputable def RelV:V->Value->Prop
 | .non,u=>u=Value.none
 | .bl b,u=>u=Value.bool b
 | .int i,u=>∃t,u=Value.int i t
 | .str x,u=>∃t,u=Value.str x t
 | .byt b,u=>∃t,u=Value.bytes b t
 | .flt b,u=>∃t,u=Value.float b t
 | .ref a,u=>u=Value.ref a
 | .ty n,u=>u=Value.type n
noncomputable abbrev Vals:List V->List Value->Prop:=Paired RelV
theorem Vals.length{xs:List V}{us:List Value}(r:Vals xs us):xs.length=us.length:=Paired.length r
theorem Vals.get:∀ {xs:List V} {us:List Value} {i:Nat} {x:V},Vals xs us->xs[i]? =some x->∃u,us[i]? =some u/\RelV x u
 |_,_,_,_,.nil,e=>by simp at e
 |_,_,0,_,.cons r _,e=>by simp at e;subst e;exact⟨_,rfl,r⟩
 |_,_,i+1,x,.cons _ t,e=>by
  obtain⟨u,h1,h2⟩:=Vals.get (i:=i) (x:=x) t (by simpa using e);exact⟨u,by simpa using h1,h2⟩
theorem Vals.set{x:V}{u:Value}(r:RelV x u):∀ {xs:List V} {us:List Value} (i:Nat),Vals xs us->Vals (xs.set i x) (us.set i u)
 |_,_,_,.nil=> .nil
 |_,_,0,.cons _ t=> .cons r t
 |_,_,i+1,.cons q t=> .cons q (Vals.set r i t)
theorem Vals.append:∀ {xs ys:List V} {us ws:List Value},Vals xs us->Vals ys ws->Vals (xs++ys) (us++ws)
 |_,_,_,_,.nil,s=>s
 |_,_,_,_,.cons r t,s=> .cons r (Vals.append t s)
theorem Vals.take:∀ {xs:List V} {us:List Value} (n:Nat),Vals xs us->Vals (xs.take n) (us.take n)
 |_,_,0,_=> .nil
 |_,_,_+1,.nil=> .nil
 |_,_,n+1,.cons r t=> .cons r (Vals.take n t)
theorem Vals.drop:∀ {xs:List V} {us:List Value} (n:Nat),Vals xs us->Vals (xs.drop n) (us.drop n)
 |_,_,0,r=>r
 |_,_,_+1,.nil=> .nil
 |_,_,n+1,.cons _ t=>Vals.drop n t
noncomputable def RelO:Option V->Option Value->Prop
 |some v,some u=>RelV v u
 |none,none=>True
 |_,_=>False
noncomputable def KV{κ:Type}:List (κ×V)->List (κ×Value)->Prop:=Paired λ(p:κ×V) (q:κ×Value)=>p.1=q.1/\RelV p.2 q.2
noncomputable def kV:Key->V
 | .inl i=> .int i
 | .inr x=> .str x
inductive HO where
 |lst (xs:List V)
 |tup (xs:List V)
 |dK (kvs:List (Key×V))|dT (kvs:List (List Key×V))
 |set(S:Int->Bool) (n:Nat)
 |ins (C dx:Addr) (fs:List (Str×V))
 |own (x:Addr)
 |xd (fs:List (Str×V))
 |met (f x:Addr)
 |rng (lo hi:Int)
 |frz (o:Obj) (u:HO)
 |tbl (ps:Array Value)
 |ext (φ:Heap->Prop)
noncomputable abbrev Hp:=Addr->Option HO
noncomputable def upd(H:Hp)(a:Addr)(o:HO):Hp:=λb=>if b=a then some o else H b
theorem A2{H:Hp}{a:Addr}{o:HO}:upd H a o a=some o:=by unfold upd;rw[if_pos rfl]
theorem B9{H:Hp}{a b:Addr}{o:HO}(h:b≠a):upd H a o b=H b:=by unfold upd;rw[if_neg h]
theorem arZ{H:Hp}{a:Addr}{o u:HO}:upd (upd H a o) a u=upd H a u:=by
 funext b;unfold upd;split<;>rfl
theorem BL{H:Hp}{a b:Addr}{o u:HO}(h:H a=some o)(h':H b=some u)(d:o≠u):a≠b:=by
 intro e;subst e;rw[h]at h';exact d (Option.some.inj h')
theorem C1{H:Hp}{a b:Addr}{o:HO}(h:H a=some o)(h':H b=none):a≠b:=by
 intro e;subst e;rw[h]at h';cases h'
section
variable(P:Program)(w:World)
noncomputable def ObjOk(H:Hp)(h:Heap)(a:Addr):HO->Prop
 | .lst xs=>xs.length<=sizeLine/\∃(its:List Value) (n:Nat),Vals xs its/\h.get? a=some {cls:=.type "list",data:=.seq its.toArray n}
 | .tup xs=>xs.length<=sizeLine/\∃its:List Value,Vals xs its/\IsTup h a its.toArray
 | .dK kvs=>kvs.length<=sizeLine/\(a==sysModules)=false/\∃vs,KV kvs vs/\h.DictOf (J8 P w) a vs
 | .dT kvs=>kvs.length<=sizeLine/\(a==sysModules)=false/\∃xs:List (List Key×Addr×Value),
   Paired (λ(p:List Key×V) (q:List Key×Addr×Value)=>p.1=q.1/\H q.2.1=some (.tup (p.1.map kV))/\RelV p.2 q.2.2) kvs xs/\
   ∃o es ep,h.get? a=some o/\o.ExactDict/\o.data=.dict es ep/\es.toList=xs.map (entryOfKey (tupleKind (J8 P w)))/\(xs.map (·.1)).Nodup
 | .set S n=>h.SetOf (intKind P w) a S n
 | .ins C dx fs=>H dx=some (.own a)/\fs.length<=1000/\dx≠a/\h.get? a=some (PySem.W.instObj C dx)/\
   ∃mA,h.Ns1 dx mA/\(∀f,RelO (fs.lookup f) (mA f))/\PySem.Within mA (fs.map (·.1))
 | .own _=>∃o,h.get? a=some o
 | .xd fs=>∃mA,h.Ns1 a mA/\∀f,RelO (fs.lookup f) (mA f)
 | .rng lo hi=>∃t u v,h.get? a=some {cls:=.type "range",data:=.fields #[.int lo t,.int hi u,.int 1 v]}
 | .frz o u=>h.get? a=some o/\ObjOk H h a u
 | .tbl ps=>h.get? a=some {cls:=.none,data:=.fields ps}
 | .met f x=>h.get? a=some (PySem.W.methodObj (.ref f) (.ref x))
 | .ext φ=>φ h/\(∃o,h.get? a=some o)/\∀h1 h2:Heap,φ h1->(∀o,h1.get? a=some o->h2.get? a=some o)->φ h2
noncomputable def HOk(H:Hp)(h:Heap):Prop:=∀a o,H a=some o->ObjOk P w H h a o
end
section
variable{P:Program}{w:World}{H H':Hp}{h h':Heap}{a:Addr}{o:HO}
theorem ObjOk.lt(x:ObjOk P w H h a o):a<h.objs.size:=by
 cases o with
 |lst xs=>obtain⟨_,_,_,_,e⟩:=x;exact lt_size e
 |tup xs=>obtain⟨_,_,_,p⟩:=x;exact p.lt
 |dK kvs=>obtain⟨_,_,_,_,o,_,_,e,_⟩:=x;exact lt_size e
 |dT kvs=>obtain⟨_,_,_,_,o,_,_,e,_⟩:=x;exact lt_size e
 |set S n=>obtain⟨o,_,_,_,e,_⟩:=x;exact lt_size e
 |ins C dx fs=>obtain⟨_,_,_,e,_⟩:=x;exact lt_size e
 |own y=>obtain⟨_,e⟩:=x;exact lt_size e
 |xd fs=>obtain⟨_,⟨_,_,_,e,_⟩,_⟩:=x;exact lt_size e
 |rng lo hi=>obtain⟨_,_,_,e⟩:=x;exact lt_size e
 |frz ob u=>obtain⟨e,_⟩:=x;exact lt_size e
 |tbl ps=>exact lt_size (show h.get? a=some _ from x)
 |met f y=>exact lt_size (show h.get? a=some _ from x)
 |ext φ=>obtain⟨_,⟨_,e⟩,_⟩:=x;exact lt_size e
theorem Paired.mapP{α β:Type}{F G:α->β->Prop}:∀ {l₁:List α} {l₂:List β},Paired F l₁ l₂->(∀a b,F a b->G a b)->Paired G l₁ l₂
 |_,_,.nil,_=> .nil
 |_,_,.cons r t,f=> .cons (f _ _ r) (Paired.mapP t f)
theorem ObjOk.stay(x:ObjOk P w H h a o)(k:∀b u,(b=a\/H b=some (.own a))->h.get? b=some u->h'.get? b=some u)
  (ho:∀b,H b=some (.own a)->H' b=some (.own a))(ht:∀b xs,H b=some (.tup xs)->H' b=some (.tup xs)):ObjOk P w H' h' a o:=by
 induction o with
 |lst xs=>obtain⟨z,its,n,r,e⟩:=x;exact⟨z,its,n,r,k _ _ (.inl rfl) e⟩
 |tup xs=>obtain⟨z,its,r,ob,e,c⟩:=x;exact⟨z,its,r,ob,k _ _ (.inl rfl) e,c⟩
 |dK kvs=>obtain⟨z,y,vs,r,ob,es,ep,e,c⟩:=x;exact⟨z,y,vs,r,ob,es,ep,k _ _ (.inl rfl) e,c⟩
 |dT kvs=>
  obtain⟨z,y,xs,r,ob,es,ep,e,c⟩:=x;exact⟨z,y,xs,Paired.mapP r λp q z=>⟨z.1,ht _ _ z.2.1,z.2.2⟩,ob,es,ep,k _ _ (.inl rfl) e,c⟩
 |set S n=>obtain⟨ob,es,ep,t,e,c⟩:=x;exact⟨ob,es,ep,t,k _ _ (.inl rfl) e,c⟩
 |ins C dx fs=>
  obtain⟨d,z,ne,e,mA,⟨od,es,ep,e2,c⟩,r⟩:=x;exact⟨ho _ d,z,ne,k _ _ (.inl rfl) e,mA,⟨od,es,ep,k _ _ (.inr d) e2,c⟩,r⟩
 |own y=>obtain⟨ob,e⟩:=x;exact⟨ob,k _ _ (.inl rfl) e⟩
 |xd fs=>obtain⟨mA,⟨od,es,ep,e,c⟩,r⟩:=x;exact⟨mA,⟨od,es,ep,k _ _ (.inl rfl) e,c⟩,r⟩
 |rng lo hi=>obtain⟨t,u,v,e⟩:=x;exact⟨t,u,v,k _ _ (.inl rfl) e⟩
 |frz ob u ih=>obtain⟨e,q⟩:=x;exact⟨k _ _ (.inl rfl) e,ih q⟩
 |tbl ps=>
  have e:h.get? a=some {cls:=.none,data:=.fields ps}:=x;show h'.get? a=some {cls:=.none,data:=.fields ps};exact k a _ (.inl rfl) e
 |met f y=>
  have e:h.get? a=some (PySem.W.methodObj (.ref f) (.ref y)):=x;show h'.get? a=some (PySem.W.methodObj (.ref f) (.ref y));exact k a _ (.inl rfl) e
 |ext φ=>obtain⟨p,⟨o,e⟩,st⟩:=x;exact⟨st _ _ p λo q=>k _ _ (.inl rfl) q,⟨o,k _ _ (.inl rfl) e⟩,st⟩
theorem HOk.lt(x:HOk P w H h)(e:H a=some o):a<h.objs.size:=(x a o e).lt
theorem HOk.fresh(x:HOk P w H h)(e:h.objs.size<=a):H a=none:=by
 cases q:H a with
 |none=>rfl
 |some u=>exact absurd (lt_of_lt_of_le (x.lt q) e) (lt_irrefl _)
theorem HOk.kept(x:HOk P w H h)(k:∀b u,h.get? b=some u->h'.get? b=some u):HOk P w H h':=λa o e=>
 (x a o e).stay (λb u _ q=>k b u q) (λ_ q=>q) λ_ _ q=>q
theorem HOk.laid(x:HOk P w H h)(k:∀b u,h.get? b=some u->h'.get? b=some u)(hp:h.objs.size<=a)(new:ObjOk P w (upd H a o) h' a o):HOk P w (upd H a o) h':=λb u e=>by
 have hn:=x.fresh hp;by_cases hb:b=a
 ·subst hb;rw[A2]at e;cases e;exact new
 ·rw[B9 hb]at e;exact(x b u e).stay (λc v _ q=>k c v q) (λc q=>by rw[B9 (C1 q hn)];exact q) λc xs q=>by rw[B9 (C1 q hn)];exact q
end
noncomputable def Rd(H:Hp)(a:Addr)(u:HO):Prop:=H a=some u\/∃o,H a=some (.frz o u)
theorem Rd.ok{P:Program}{w:World}{H:Hp}{h:Heap}{a:Addr}{u:HO}(r:Rd H a u)(x:HOk P w H h):ObjOk P w H h a u:=by
 rcases r with r|⟨o,r⟩
 ·exact x a u r
 ·obtain⟨_,q⟩:=x a _ r;exact q
noncomputable def Mut:Option HO->Prop
 |some (.lst _)=>True
 |some (.dK _)=>True
 |some (.dT _)=>True
 |some (.set _ _)=>True
 |some (.ins _ _ _)=>True
 |some (.ext _)=>True
 |_=>False
section
variable{P:Program}{w:World}{H:Hp}{h h':Heap}{x e:Addr}{o':HO}
theorem HOk.write(ok:HOk P w H h)(mu:Mut (H x))(he:e=x\/H e=some (.own x))(k:∀b u,b≠e->h.get? b=some u->h'.get? b=some u)(heo:∃u,h'.get? e=some u)
  (new:ObjOk P w (upd H x o') h' x o'):HOk P w (upd H x o') h':=λb u q=>by
 have nown:∀c y,H c=some (.own y)->c≠x:=λc y r z=>by subst z;rw[r]at mu;exact mu
 have ntup:∀c xs,H c=some (.tup xs)->c≠x:=λc xs r z=>by subst z;rw[r]at mu;exact mu
 by_cases hb:b=x
 ·subst hb;rw[A2]at q;cases q;exact new
 ·rw[B9 hb]at q;by_cases hbe:b=e
  ·have q':H b=some (.own x):=by
    rcases he with z|z
    ·exact absurd (hbe.trans z) hb
    ·rw[hbe];exact z
   rw[q]at q';cases q';obtain⟨v,hv⟩:=heo;exact⟨v,by rw[hbe];exact hv⟩
  ·refine(ok b u q).stay (λc v hc r=>k c v ?_ r) (λc r=>by rw[B9 (nown c b r)];exact r) λc xs r=>by rw[B9 (ntup c xs r)];exact r
   rcases hc with rfl|hc
   ·exact hbe
   ·rintro rfl;rcases he with z|z
    ·exact nown c b hc z
    ·rw[hc]at z;cases z;exact hb rfl
end
structure Un (fs ex:List Addr) (H H':Hp) (h h':Heap):Prop where
 keep:∀b o,h.get? b=some o->H b=none->b∉fs->b∉ex->h'.get? b=some o
 slot:∀b o,h.get? b=some o->H b=none->b∈fs->b∉ex->∃sl,h'.get? b=some {o with slots:=sl}
 free:∀b o,h.get? b=some o->H b=none->b∉ex->H' b=none
 there:∀b o,h.get? b=some o->b∉ex->∃o',h'.get? b=some o'
 tups:∀b xs,H b=some (.tup xs)->H' b=some (.tup xs)
 frzs:∀b o u,H b=some (.frz o u)->H' b=some (.frz o u)
 tbls:∀b ps,H b=some (.tbl ps)->∃more,H' b=some (.tbl (ps++more))
section
variable{fs fs' ex ex':List Addr}{H H1 H2:Hp}{h h1 h2 h':Heap}{a x e:Addr}{o:HO}
theorem Un.any(u:Un fs ex H H1 h h1){b:Addr}{ob:Obj}(q:h.get? b=some ob)(n:H b=none)(hx:b∉ex):∃sl,h1.get? b=some {ob with slots:=sl}:=by
 by_cases hb:b∈fs
 ·exact u.slot b ob q n hb hx
 ·exact⟨ob.slots,u.keep b ob q n hb hx⟩
theorem Un.kept(k:∀b u,h.get? b=some u->h'.get? b=some u):Un fs ex H H h h':=
 ⟨λb ob q _ _ _=>k b ob q,λb ob q _ _ _=>⟨ob.slots,k b ob q⟩,λ_ _ _ n _=>n,λb ob q _=>⟨ob,k b ob q⟩,λ_ _ q=>q,λ_ _ _ q=>q,λ_ ps q=>⟨#[],by rw[q];simp⟩⟩
theorem Un.refl:Un fs ex H H h h:=Un.kept λ_ _ q=>q
theorem Un.laid(k:∀b u,h.get? b=some u->h'.get? b=some u)(hp:h.objs.size<=a)(hn:H a=none):Un fs ex H (upd H a o) h h' where
 keep:=λb u q _ _ _=>k b u q
 slot:=λb u q _ _ _=>⟨u.slots,k b u q⟩
 free:=λb u q n _=>by rw[B9 (ne_of_lt (lt_of_lt_of_le (lt_size q) hp))];exact n
 there:=λb u q _=>⟨u,k b u q⟩
 tups:=λb xs q=>by rw[B9 (C1 q hn)];exact q
 frzs:=λb u xs q=>by rw[B9 (C1 q hn)];exact q
 tbls:=λb ps q=>⟨#[],by rw[B9 (C1 q hn),q];simp⟩
theorem Un.write(mu:Mut (H x))(he:e=x\/H e=some (.own x))(k:∀b u,b≠e->h.get? b=some u->h'.get? b=some u)(heo:∃u,h'.get? e=some u):Un fs ex H (upd H x o) h h':=by
 have hx:∀b,H b=none->b≠x:=λb n z=>by subst z;rw[n]at mu;exact mu
 have hb:∀b,H b=none->b≠e:=λb n z=>by
  subst z;rcases he with r|r
  ·exact hx b n r
  ·rw[n]at r;cases r
 have hm:∀b u,H b=some u->¬Mut (some u)->b≠x:=λb u q nm z=>by subst z;rw[q]at mu;exact nm mu
 refine⟨λb u q n _ _=>k b u (hb b n) q,λb u q n _ _=>⟨u.slots,k b u (hb b n) q⟩,λb u q n _=>by rw[B9 (hx b n)];exact n,λb u q _=> ?_,
  λb xs q=>by rw[B9 (hm b _ q λz=>z)];exact q,λb u xs q=>by rw[B9 (hm b _ q λz=>z)];exact q,λb ps q=>⟨#[],by rw[B9 (hm b _ q λz=>z),q];simp⟩⟩
 by_cases hbe:b=e
 ·subst hbe;exact heo
 ·exact⟨u,k b u hbe q⟩
end
noncomputable def trk(h:Heap)(H:Hp):List Addr:=(List.range h.objs.size).filter λa=>(H a).isSome
noncomputable def LD(h:Heap)(H:Hp):Heap:=PySem.W.hideAll h (trk h H)
theorem UG(h:Heap)(H:Hp):(LD h H).objs.size=h.objs.size:=PySem.W.hideAll_size _ _
theorem XT{h:Heap}{H:Hp}{b:Addr}{o:Obj}(e:h.get? b=some o)(n:H b=none):(LD h H).get? b=some o:=
 PySem.W.hideAll_get _ e λhm=>by
  have q:(H b).isSome=true:=(List.mem_filter.mp hm).2;rw[n]at q;simp at q
theorem ZQ{h:Heap}{H:Hp}{b:Addr}{o:Obj}(e:(LD h H).get? b=some o):h.get? b=some o/\H b=none:=by
 have e':h.get? b=some o:=PySem.W.of_hideAll (trk h H) e;refine⟨e', ?_⟩;cases q:H b with
 |none=>rfl
 |some x=>
  have hm:b∈trk h H:=List.mem_filter.mpr ⟨mem_range.mpr (lt_size e'),by simp[q]⟩;have z:(LD h H).get? b=none:=PySem.W.hideAll_none (trk h H) hm;rw[z]at e;cases e
structure Mod (K:FZ) (mg:Str->Option Value) (base:Heap):Prop where
 kin:K.In base
 glob:base.Ns mainGlobals mg
 blt:∃mb,base.Ns builtinsNs mb/\∀x:Str,x≠ "__name__"->mb x=bootBuiltins x
 nolimit:base.NoLimit
structure Cx where
 prog:Program
 w:World
 K:FZ
 mg:Str->Option Value
 base:Heap
 A:Around
 N:List Str
 s₀:Shared
 H₀:Hp
 env:Env
 outer:List Env
 stack:List Env
 ex:List Addr
 fn:Str->Bool
 calm:Bool
 pn:List (Addr×Obj)
 xe:Value->Shared->Prop
noncomputable def frs(l:List Env):List Addr:=l.filterMap (·.frame)
noncomputable abbrev Cx.fs(X:Cx):List Addr:=frs X.outer
noncomputable def Vis(sc:Scope)(x:Str):Prop:=sc.names.lookup x=some .local\/sc.names.lookup x=some .cell\/sc.names.lookup x=some .free
noncomputable def Loc(sc:Scope)(x:Str):Prop:=sc.names.lookup x=some .local\/sc.names.lookup x=some .cell
noncomputable def dnZ(env:Env)(h:Heap)(m:Str->Option Value)(x:Str)(u:Value):Prop:=
 (env.kindOf x=some .local/\m x=some u)\/((env.kindOf x=some .cell\/env.kindOf x=some .free)/\∃c,env.cells.lookup x=some c/\h.IsCell c (some u))
structure Cx.Ok (X:Cx):Prop where
 mod:Mod X.K X.mg X.base
 kind:X.env.scope.kind=.function
 glob:X.env.globals=mainGlobals
 blt:X.env.builtins=builtinsNs
 above:X.s₀.heap.objs.size<=X.env.locals
 inj:∀x y c,X.env.cells.lookup x=some c->X.env.cells.lookup y=some c->x=y
 has:∀x,(X.env.kindOf x=some .cell\/X.env.kindOf x=some .free)->∃c,X.env.cells.lookup x=some c
 cab:∀x c,X.fn x=true->X.env.cells.lookup x=some c->X.s₀.heap.objs.size<=c
 hd:X.calm=true->X.A.handled=none
 frames:X.A.frames=some X.stack
 stk:X.stack=X.outer\/(X.stack=X.env::X.outer/\X.env.frame=some X.env.locals)
 exf:∀b∈X.ex,b≠X.env.locals/\∀x c,X.env.cells.lookup x=some c->c≠b
 bs:∀b o,X.base.get? b=some o->X.s₀.heap.get? b=some o/\X.H₀ b=none
 bsz:X.base.objs.size<=X.s₀.heap.objs.size
 noex:∀b o,X.base.get? b=some o->b∉X.ex
 exfs:∀b∈X.ex,b∉X.fs
 funs:X.s₀.heap.FunFrames X.base X.outer
 frf:∀b∈X.fs,X.H₀ b=none
structure Inv (X:Cx) (pins:List (Addr×Obj)) (σ:List (Option V)) (H:Hp) (s:Shared):Prop where
 ok:X.Ok
 os:s.os=X.s₀.os
 bare:AllBare s.gens
 base:Un X.fs X.ex X.H₀ H X.s₀.heap s.heap
 loc:∃m,s.heap.Ns X.env.locals m/\∀(i:Nat) (x:Str) (v:V),X.N[i]? =some x->σ[i]? =some (some v)->Vis X.env.scope x->∃u,RelV v u/\dnZ X.env s.heap m x u
 cell:∀x c,X.env.cells.lookup x=some c->∃v,s.heap.IsCell c v
 free:H X.env.locals=none
 freeC:∀x c,X.env.cells.lookup x=some c->H c=none
 pin:∀p∈X.pn++pins,s.heap.get? p.1=some p.2/\H p.1=none/\p.1≠X.env.locals/\p.1∉X.fs/\∀v,p.2.data≠ .cell v
 hok:HOk X.prog X.w H s.heap
 len:σ.length=X.N.length
section
variable{X:Cx}{pins:List (Addr×Obj)}{σ:List (Option V)}{H H':Hp}{s:Shared}{h':Heap}
theorem Cx.Ok.nofr(ok:X.Ok){b:Addr}{o:Obj}(e:X.base.get? b=some o):b∉X.fs:=λhb=>by
 have:=(ok.funs.mem hb).1;rw[e]at this;cases this
theorem Inv.bs(I:Inv X pins σ H s):∀b o,X.base.get? b=some o->s.heap.get? b=some o/\H b=none:=λb o e=>
 ⟨I.base.keep b o (I.ok.bs b o e).1 (I.ok.bs b o e).2 (I.ok.nofr e) (I.ok.noex b o e),I.base.free b o (I.ok.bs b o e).1 (I.ok.bs b o e).2 (I.ok.noex b o e)⟩
theorem Inv.bk(I:Inv X pins σ H s):∀b o,X.base.get? b=some o->s.heap.get? b=some o:=λb o e=>(I.bs b o e).1
theorem Inv.mod(I:Inv X pins σ H s):Mod X.K X.mg X.base:=I.ok.mod
theorem Inv.kIn(I:Inv X pins σ H s):X.K.In s.heap:=I.ok.mod.kin.keeps I.bk
theorem Inv.lt(I:Inv X pins σ H s):X.env.locals<s.heap.objs.size:=let⟨_,hn,_⟩:=I.loc;hn.lt
theorem Inv.sz(I:Inv X pins σ H s):X.s₀.heap.objs.size<=s.heap.objs.size:=Nat.le_trans I.ok.above (Nat.le_of_lt I.lt)
theorem Inv.nofs(I:Inv X pins σ H s){a:Addr}(h:s.heap.objs.size<=a):a∉X.fs:=λhb=>by
 obtain⟨_,o,ho,_⟩:=I.ok.funs.mem hb;exact absurd (lt_of_lt_of_le (lt_size ho) (Nat.le_trans I.sz h)) (lt_irrefl _)
theorem Inv.cne(I:Inv X pins σ H s):∀x c,X.env.cells.lookup x=some c->c≠X.env.locals:=λx c e z=>by
 obtain⟨v,o,ho,hd⟩:=I.cell x c e;obtain⟨m,⟨o',es,ep,ho',hd',_⟩,_⟩:=I.loc;rw[z,ho']at ho;cases ho;rw[hd']at hd;cases hd
theorem Inv.funs(I:Inv X pins σ H s):s.heap.FunFrames X.base X.outer:=by
 have all:∀(l:List Env),(∀b∈frs l,b∈X.fs)->X.s₀.heap.FunFrames X.base l->s.heap.FunFrames X.base l:=by
  intro l;induction l with
  |nil=>intro _ _;trivial
  |cons env r ih=>
   intro hs hl;obtain⟨hk,⟨L,o,hf,hn,ho,hd⟩,hr⟩:=hl;have hL:L∈X.fs:=hs L (by unfold frs;rw[List.filterMap_cons,hf];exact mem_cons_self);obtain⟨sl,e⟩:=I.base.slot L o ho (I.ok.frf L hL) hL λz=>I.ok.exfs L z hL;exact⟨hk,⟨L,_,hf,hn,e,hd⟩,ih (λb hb=>hs b (by unfold frs;rw[List.filterMap_cons,hf];exact mem_cons_of_mem _ hb)) hr⟩
 exact all X.outer (λ_ hb=>hb) I.ok.funs
theorem Inv.stack(I:Inv X pins σ H s):s.heap.FunFrames X.base X.stack:=by
 rcases I.ok.stk with e|⟨e,hf⟩
 ·rw[e];exact I.funs
 ·rw[e];obtain⟨m,hn,_⟩:=I.loc;refine .cons (by rw[I.ok.kind];decide) hf hn ?_ I.funs;exact Heap.get?_none_of_le (Nat.le_trans I.ok.bsz I.ok.above)
theorem Inv.stkSub(I:Inv X pins σ H s):∀b∈frs X.stack,b∈X.env.locals::X.fs:=λb hb=>by
 rcases I.ok.stk with e|⟨e,hf⟩
 ·rw[e]at hb;exact mem_cons_of_mem _ hb
 ·rw[e]at hb;unfold frs at hb;rw[List.filterMap_cons,hf]at hb;exact hb
theorem Inv.stkFree(I:Inv X pins σ H s):∀b∈frs X.stack,H b=none:=λb hb=>by
 rcases cZ (I.stkSub b hb)with e|hb
 ·rw[e];exact I.free
 ·obtain⟨_,o,ho,_⟩:=I.ok.funs.mem hb;exact I.base.free b o ho (I.ok.frf b hb) λz=>I.ok.exfs b z hb
theorem Inv.step{g':Array GenState}{t':Nat}{d':Drawn}{ch:List Addr}(I:Inv X pins σ H s)
  (hch:∀b∈ch,(b∈X.ex\/X.s₀.heap.objs.size<=b)/\b≠X.env.locals/\(∀x c,X.env.cells.lookup x=some c->c≠b)/\∀p∈X.pn++pins,p.1≠b)
  (keep:∀b o,b≠X.env.locals->b∉X.fs->b∉ch->s.heap.get? b=some o->H b=none->h'.get? b=some o)
  (slot:∀b o,b≠X.env.locals->b∈X.fs->b∉ch->s.heap.get? b=some o->H b=none->∃sl,h'.get? b=some {o with slots:=sl})(free:∀b o,b∉ch->s.heap.get? b=some o->H b=none->H' b=none)
  (there:∀b o,b∉ch->s.heap.get? b=some o->∃o',h'.get? b=some o')
  (tups:∀b xs,H b=some (.tup xs)->H' b=some (.tup xs))(frzs:∀b o u,H b=some (.frz o u)->H' b=some (.frz o u))(tbls:∀b ps,H b=some (.tbl ps)->∃more,H' b=some (.tbl (ps++more)))
  (ns:∀m,s.heap.Ns X.env.locals m->h'.Ns X.env.locals m)(hok:HOk X.prog X.w H' h')(hg:AllBare g'):
  Inv X pins σ H' {s with heap:=h',gens:=g',drawn:=d',toks:=t'}:=by
 have neL:∀b o,X.s₀.heap.get? b=some o->b≠X.env.locals:=λb o e=>ne_of_lt (lt_of_lt_of_le (lt_size e) I.ok.above);have neC:∀b o,X.s₀.heap.get? b=some o->b∉X.ex->b∉ch:=λb o e hx hb=>by
  rcases(hch b hb).1 with z|z
  ·exact hx z
  ·exact absurd (lt_of_lt_of_le (lt_size e) z) (lt_irrefl _)
 have cellK:∀x c,X.env.cells.lookup x=some c->∀v,s.heap.IsCell c v->h'.IsCell c v:=λx c e v ⟨o,ho,hd⟩=>by
  have nch:c∉ch:=λz=>(hch c z).2.2.1 x c e rfl;by_cases hc:c∈X.fs
  ·obtain⟨sl,q⟩:=slot c o (I.cne x c e) hc nch ho (I.freeC x c e);exact⟨_,q,hd⟩
  ·exact⟨o,keep c o (I.cne x c e) hc nch ho (I.freeC x c e),hd⟩
 refine⟨I.ok,I.os,hg,⟨λb o e n hb hx=> ?_,λb o e n hb hx=> ?_,λb o e n hx=> ?_,λb o e hx=> ?_,λb xs e=>tups b xs (I.base.tups b xs e),λb o xs e=>frzs b o xs (I.base.frzs b o xs e),λb ps e=> ?_⟩, ?_,λx c e=> ?_, ?_,λx c e=> ?_,λp hp=> ?_,hok,I.len⟩
 ·exact keep b o (neL b o e) hb (neC b o e hx) (I.base.keep b o e n hb hx) (I.base.free b o e n hx)
 ·obtain⟨sl,e1⟩:=I.base.slot b o e n hb hx;obtain⟨sl',e2⟩:=slot b _ (neL b o e) hb (neC b o e hx) e1 (I.base.free b o e n hx);exact⟨sl',e2⟩
 ·obtain⟨o',e1⟩:=I.base.there b o e hx;exact free b o' (neC b o e hx) e1 (I.base.free b o e n hx)
 ·obtain⟨o',e1⟩:=I.base.there b o e hx;exact there b o' (neC b o e hx) e1
 ·obtain⟨m1,e1⟩:=I.base.tbls b ps e;obtain⟨m2,e2⟩:=tbls b _ e1;exact⟨m1++m2,by rw[e2,Array.append_assoc]⟩
 ·obtain⟨m,hn,hl⟩:=I.loc;refine⟨m,ns m hn,λi x v e1 e2 e3=> ?_⟩;obtain⟨u,r,l⟩:=hl i x v e1 e2 e3;refine⟨u,r, ?_⟩;rcases l with l|⟨k,c,e,z⟩
  ·exact .inl l
  ·exact .inr ⟨k,c,e,cellK x c e _ z⟩
 ·obtain⟨v,z⟩:=I.cell x c e;exact⟨v,cellK x c e v z⟩
 ·obtain⟨m,⟨o,_,_,ho,_⟩,_⟩:=I.loc;exact free _ o (λz=>(hch _ z).2.1 rfl) ho I.free
 ·obtain⟨v,o,ho,hd⟩:=I.cell x c e;exact free c o (λz=>(hch c z).2.2.1 x c e rfl) ho (I.freeC x c e)
 ·obtain⟨e,n,ne,nf,d⟩:=I.pin p hp;have nch:p.1∉ch:=λz=>(hch p.1 z).2.2.2 p hp rfl;exact⟨keep p.1 p.2 ne nf nch e n,free p.1 p.2 nch e n,ne,nf,d⟩
theorem Inv.un{t':Nat}(I:Inv X pins σ H s)(u:Un X.fs [] H H' s.heap h')(hok:HOk X.prog X.w H' h'):Inv X pins σ H' {s with heap:=h',toks:=t'}:=by
 obtain⟨m,⟨o,es,ep,ho,r⟩,_⟩:=id I.loc;obtain⟨sl,hL⟩:=u.any ho I.free (by simp);exact I.step (g':=s.gens) (d':=s.drawn) (ch:=[]) (λ_ z=>nomatch z) (λb o _ hb _ e n=>u.keep b o e n hb (by simp)) (λb o _ hb _ e n=>u.slot b o e n hb (by simp)) (λb o _ e n=>u.free b o e n (by simp)) (λb o _ e=>u.there b o e (by simp)) u.tups u.frzs u.tbls (λm' hm=>by
  obtain⟨o',es',ep',ho',r'⟩:=hm;rw[ho]at ho';cases ho';exact⟨_,es',ep',hL,r'⟩) hok I.bare
theorem Inv.call{g':Array GenState}{t':Nat}{d':Drawn}{ch:List Addr}(I:Inv X pins σ H s)(u:Un (frs X.stack) ch H H' s.heap h')(hok:HOk X.prog X.w H' h')(hg:AllBare g')
  (hch:∀b∈ch,(b∈X.ex\/X.s₀.heap.objs.size<=b)/\b≠X.env.locals/\(∀x c,X.env.cells.lookup x=some c->c≠b)/\∀p∈X.pn++pins,p.1≠b):
  Inv X pins σ H' {s with heap:=h',gens:=g',drawn:=d',toks:=t'}:=by
 obtain⟨m,⟨o,es,ep,ho,r⟩,_⟩:=id I.loc;obtain⟨sl,hL⟩:=u.any ho I.free λz=>(hch _ z).2.1 rfl;exact I.step (ch:=ch) hch (λb o hL hb hc e n=>u.keep b o e n (λz=>(cZ (I.stkSub b z)).elim hL hb) hc) (λb o _ _ hc e n=>u.any e n hc) (λb o hc e n=>u.free b o e n hc) (λb o hc e=>u.there b o e hc) u.tups u.frzs u.tbls (λm' hm=>by
  obtain⟨o',es',ep',ho',r'⟩:=hm;rw[ho]at ho';cases ho';exact⟨_,es',ep',hL,r'⟩) hok hg
theorem Inv.turned{t':Nat}{it:Addr}(I:Inv X pins σ H s)(k:∀b o,b≠it->s.heap.get? b=some o->h'.get? b=some o)(hn:H it=none)(hL:it≠X.env.locals)
  (h1:it∈X.ex\/X.s₀.heap.objs.size<=it)(h2:∀x c,X.env.cells.lookup x=some c->c≠it)(h3:∀p∈X.pn++pins,p.1≠it):Inv X pins σ H {s with heap:=h',toks:=t'}:=by
 have nit:∀b u,H b=some u->b≠it:=λb u e z=>by rw[z,hn]at e;cases e
 refine I.step (g':=s.gens) (d':=s.drawn) (ch:=[it]) (λb hb=> ?_) (λb o _ _ hc e _=>k b o (λz=>hc (by simp[z])) e) (λb o _ _ hc e _=>⟨o.slots,k b o (λz=>hc (by simp[z])) e⟩) (λ_ _ _ _ n=>n)
  (λb o hc e=>⟨o,k b o (λz=>hc (by simp[z])) e⟩) (λ_ _ e=>e) (λ_ _ _ e=>e) (λb ps e=>⟨#[],by rw[e];simp⟩) (λm hm=> ?_) (λb u e=> ?_) I.bare
 ·have e:b=it:=by simpa using hb
  subst e;exact⟨h1,hL,h2,h3⟩
 ·obtain⟨o,es,ep,ho,r⟩:=hm;exact⟨o,es,ep,k _ o (Ne.symm hL) ho,r⟩
 ·refine(I.hok b u e).stay (λc v hc q=>k c v ?_ q) (λ_ q=>q) λ_ _ q=>q;rcases hc with z|z
  ·rw[z];exact nit b u e
  ·exact nit c _ z
theorem Inv.tok(I:Inv X pins σ H s)(t:Nat):Inv X pins σ H {s with toks:=t}:=I.un (h':=s.heap) (t':=t) Un.refl I.hok
theorem Inv.kept{t':Nat}(I:Inv X pins σ H s)(k:∀b u,s.heap.get? b=some u->h'.get? b=some u):Inv X pins σ H {s with heap:=h',toks:=t'}:=I.un (Un.kept k) (I.hok.kept k)
theorem Inv.laid{a:Addr}{o:HO}{t':Nat}(I:Inv X pins σ H s)(k:∀b u,s.heap.get? b=some u->h'.get? b=some u)(hp:s.heap.objs.size<=a)(new:ObjOk X.prog X.w (upd H a o) h' a o):
  Inv X pins σ (upd H a o) {s with heap:=h',toks:=t'}:=I.un (Un.laid k hp (I.hok.fresh hp)) (I.hok.laid k hp new)
theorem Inv.write{x e:Addr}{o:HO}{t':Nat}(I:Inv X pins σ H s)(mu:Mut (H x))(he:e=x\/H e=some (.own x))(k:∀b u,b≠e->s.heap.get? b=some u->h'.get? b=some u)(heo:∃u,h'.get? e=some u)
  (new:ObjOk X.prog X.w (upd H x o) h' x o):Inv X pins σ (upd H x o) {s with heap:=h',toks:=t'}:=I.un (Un.write mu he k heo) (I.hok.write mu he k heo new)
theorem Inv.weak{σ':List (Option V)}(I:Inv X pins σ H s)(hl:σ'.length=σ.length)(w:∀(i:Nat) v,σ'[i]? =some (some v)->σ[i]? =some (some v)):Inv X pins σ' H s:=
 ⟨I.ok,I.os,I.bare,I.base,let⟨m,hn,hl'⟩:=I.loc;⟨m,hn,λi x v e1 e2 e3=>hl' i x v e1 (w i v e2) e3⟩,I.cell,I.free,I.freeC,I.pin,I.hok,hl.trans I.len⟩
theorem Inv.pins_of{pins':List (Addr×Obj)}(I:Inv X pins σ H s)(h:∀p∈pins',s.heap.get? p.1=some p.2/\H p.1=none/\p.1≠X.env.locals/\p.1∉X.fs/\∀v,p.2.data≠ .cell v):Inv X pins' σ H s:=
 ⟨I.ok,I.os,I.bare,I.base,I.loc,I.cell,I.free,I.freeC,λp hp=>(mem_append.mp hp).elim (λz=>I.pin p (mem_append_left _ z)) (h p),I.hok,I.len⟩
theorem MM{N:List Str}(hN:N.Nodup){i j:Nat}{x:Str}(a:N[i]? =some x)(b:N[j]? =some x):i=j:=by
 obtain⟨h1,e1⟩:=List.getElem?_eq_some_iff.mp a;obtain⟨h2,e2⟩:=List.getElem?_eq_some_iff.mp b;exact(List.getElem_inj hN).mp (e1.trans e2.symm)
theorem JP{M:Model}{A:Around}{E:Value->Shared->Prop}{i:Nat}{x:Str}{v:V}{u:Value}{Q:Unit->Shared->Prop}(I:Inv X pins σ H s)(hN:X.N.Nodup)(hi:X.N[i]? =some x)(hx:Loc X.env.scope x)(r:RelV v u)
  (h:∀s',Inv X pins (σ.set i (some v)) H s'->(∃a,Heap.SameBut a s.heap s'.heap/\(a=X.env.locals\/X.env.cells.lookup x=some a))->Q () s')(hf:X.fn x=true\/X.env.scope.names.lookup x=some .local:=by first|exact .inl rfl|exact .inr rfl|assumption):wpAny M A (storeName X.env x u) Q E s:=by
 obtain⟨m,hn,hl⟩:=id I.loc;have hcls:(X.env.scope.kind==.class||(X.env.scope.kind==.module&&X.env.locals !=X.env.globals))=false:=by rw[I.ok.kind];rfl
 have hiσ:i<σ.length:=by rw[I.len];exact(List.getElem?_eq_some_iff.mp hi).1
 have cne:=I.cne;have tracked:∀ {a:Addr} {h':Heap},(∃o,s.heap.get? a=some o/\H a=none)->Heap.SameBut a s.heap h'->HOk X.prog X.w H h':=λ{a h'} ha hs b ob e=>by
  obtain⟨_,_,hfree⟩:=ha;refine(I.hok b ob e).stay (λc w' hc q=>(hs.2 c ?_).trans q) (λ_ q=>q) λ_ _ q=>q;rintro rfl;rcases hc with rfl|hc
  ·rw[hfree]at e;cases e
  ·rw[hfree]at hc;cases hc
 rcases hx with hk|hk
 ·refine wpAny_storeName_local hk hn (λh' hn' hs=> ?_) hcls;obtain⟨oL,_,_,hoL,_⟩:=id hn;refine h _ ⟨I.ok,I.os,I.bare,⟨λb o e n hb hx=> ?_,λb o e n hb hx=> ?_,I.base.free,λb o e hx=> ?_,I.base.tups,I.base.frzs,I.base.tbls⟩,⟨_,hn',λj y v' e1 e2 e3=> ?_⟩,λy c e=> ?_,I.free,I.freeC,λp hp=> ?_,tracked ⟨oL,hoL,I.free⟩ hs,by simpa using I.len⟩ ⟨_,hs,.inl rfl⟩
  ·exact(hs.2 b (ne_of_lt (lt_of_lt_of_le (lt_size e) I.ok.above))).trans (I.base.keep b o e n hb hx)
  ·obtain⟨sl,e1⟩:=I.base.slot b o e n hb hx;exact⟨sl,(hs.2 b (ne_of_lt (lt_of_lt_of_le (lt_size e) I.ok.above))).trans e1⟩
  ·obtain⟨o',e1⟩:=I.base.there b o e hx;exact⟨o',(hs.2 b (ne_of_lt (lt_of_lt_of_le (lt_size e) I.ok.above))).trans e1⟩
  ·by_cases hj:j=i
   ·subst hj;rw[hi]at e1;cases e1;rw[List.getElem?_set_self hiσ]at e2;cases e2;exact⟨u,r,.inl ⟨hk,by simp⟩⟩
   ·rw[List.getElem?_set_ne (Ne.symm hj)]at e2;obtain⟨u',r',q⟩:=hl j y v' e1 e2 e3;refine⟨u',r', ?_⟩;rcases q with⟨k,e⟩|⟨k,c,e,z⟩
    ·refine .inl ⟨k, ?_⟩;have:y≠x:=λe=>hj (MM hN e1 (e▸hi));simp[this,e]
    ·exact .inr ⟨k,c,e,z.sameBut hs (cne y c e)⟩
  ·obtain⟨w',z⟩:=I.cell y c e;exact⟨w',z.sameBut hs (cne y c e)⟩
  ·obtain⟨e,n,ne,nf,d⟩:=I.pin p hp;exact⟨(hs.2 p.1 ne).trans e,n,ne,nf,d⟩
 ·have hfn:X.fn x=true:=by
   rcases hf with z|z
   ·exact z
   ·rw[z]at hk;cases hk
  obtain⟨c,hc⟩:=I.ok.has x (.inl hk);obtain⟨w',z⟩:=I.cell x c hc;refine wpAny_storeName_cell I.ok.kind hk hc z (λh' hc' hs=> ?_);obtain⟨oc,hoc,hocd⟩:=id z;refine h {s with heap:=h'} ⟨I.ok,I.os,I.bare,⟨λb o e n hb hx=> ?_,λb o e n hb hx=> ?_,I.base.free,λb o e hx=> ?_,I.base.tups,I.base.frzs,I.base.tbls⟩,⟨m,hn.sameBut hs (Ne.symm (cne x c hc)),λj y v' e1 e2 e3=> ?_⟩,λy c' e=> ?_,I.free,I.freeC,λp hp=> ?_,tracked ⟨oc,hoc,I.freeC x c hc⟩ hs,by simpa using I.len⟩ ⟨c,hs,.inr hc⟩
  ·exact(hs.2 b (ne_of_lt (lt_of_lt_of_le (lt_size e) (I.ok.cab x c hfn hc)))).trans (I.base.keep b o e n hb hx)
  ·obtain⟨sl,e1⟩:=I.base.slot b o e n hb hx;exact⟨sl,(hs.2 b (ne_of_lt (lt_of_lt_of_le (lt_size e) (I.ok.cab x c hfn hc)))).trans e1⟩
  ·obtain⟨o',e1⟩:=I.base.there b o e hx;exact⟨o',(hs.2 b (ne_of_lt (lt_of_lt_of_le (lt_size e) (I.ok.cab x c hfn hc)))).trans e1⟩
  ·by_cases hj:j=i
   ·subst hj;rw[hi]at e1;cases e1;rw[List.getElem?_set_self hiσ]at e2;cases e2;exact⟨u,r,.inr ⟨.inl hk,c,hc,hc'⟩⟩
   ·rw[List.getElem?_set_ne (Ne.symm hj)]at e2;obtain⟨u',r',q⟩:=hl j y v' e1 e2 e3;refine⟨u',r', ?_⟩;rcases q with q|⟨k,c',e,z'⟩
    ·exact .inl q
    ·refine .inr ⟨k,c',e,z'.sameBut hs ?_⟩;rintro rfl;exact hj (MM hN e1 (I.ok.inj _ _ _ e hc▸hi))
  ·by_cases hcc:c'=c
   ·subst hcc;exact⟨_,hc'⟩
   ·obtain⟨w2,z2⟩:=I.cell y c' e;exact⟨w2,z2.sameBut hs hcc⟩
  ·obtain⟨e,n,ne,nf,d⟩:=I.pin p hp;refine⟨(hs.2 p.1 ?_).trans e,n,ne,nf,d⟩;intro q;rw[q,hoc]at e;have q':oc=p.2:=Option.some.inj e;exact d w' (by rw[<-q'];exact hocd)
theorem IC{M:Model}{A:Around}{E:Value->Shared->Prop}{i:Nat}{x:Str}{v:V}{u:Value}{Q:Unit->Shared->Prop}(I:Inv X pins σ H s)(hN:X.N.Nodup)(hi:X.N[i]? =some x)(hx:Loc X.env.scope x)(r:RelV v u)
  (h:∀s',Inv X pins (σ.set i (some v)) H s'->Q () s')(hf:X.fn x=true\/X.env.scope.names.lookup x=some .local:=by first|exact .inl rfl|exact .inr rfl|assumption):wpAny M A (storeName X.env x u) Q E s:=
 JP I hN hi hx r (λs' I' _=>h s' I') hf
theorem Inv.call'{s':Shared}{ch:List Addr}(I:Inv X pins σ H s)(ho:s'.os=s.os)(u:Un (frs X.stack) ch H H' s.heap s'.heap)(hok:HOk X.prog X.w H' s'.heap)(hg:AllBare s'.gens)
  (hch:∀b∈ch,(b∈X.ex\/X.s₀.heap.objs.size<=b)/\b≠X.env.locals/\(∀x c,X.env.cells.lookup x=some c->c≠b)/\∀p∈X.pn++pins,p.1≠b):Inv X pins σ H' s':=by
 obtain⟨h',g',d',t',o'⟩:=s';have e:o'=s.os:=ho;subst e;exact I.call (g':=g') (t':=t') (d':=d') u hok hg hch
end
noncomputable abbrev XK:=Value->Option Addr->Hp->Prop
noncomputable abbrev St:=List (Option V)
noncomputable abbrev VK:=V->Hp->Prop
noncomputable abbrev TE:=St->Hp->VK->Prop
noncomputable abbrev TT:=St->Hp->(Bool->Hp->Prop)->Prop
noncomputable abbrev TA:=St->Hp->(List V->Hp->Prop)->Prop
structure Ends where
 nx:St->Hp->Prop
 rt:VK
 bk:St->Hp->Prop:=λ_ _=>False
 ct:St->Hp->Prop:=λ_ _=>False
noncomputable abbrev TS:=Ends->St->Hp->Prop
noncomputable def EP(X:Cx)(pins:List (Addr×Obj))(σ:St)(Q:VK)(u:Value)(s':Shared):Prop:=∃v H',Inv X pins σ H' s'/\RelV v u/\Q v H'
noncomputable def TP(X:Cx)(pins:List (Addr×Obj))(σ:St)(Q:Bool->Hp->Prop)(b:Bool)(s':Shared):Prop:=∃H',Inv X pins σ H' s'/\Q b H'
noncomputable def AP(X:Cx)(pins:List (Addr×Obj))(σ:St)(Q:List V->Hp->Prop)(us:List Value)(s':Shared):Prop:=∃vs H',Inv X pins σ H' s'/\Vals vs us/\Q vs H'
noncomputable def SP(X:Cx)(pins:List (Addr×Obj))(D:Ends)(f:Flow)(s':Shared):Prop:=
 match f with
 | .next=>∃σ' H',Inv X pins σ' H' s'/\D.nx σ' H'
 | .brk=>∃σ' H',Inv X pins σ' H' s'/\D.bk σ' H'
 | .cont=>∃σ' H',Inv X pins σ' H' s'/\D.ct σ' H'
 | .ret u=>∃v σ' H',Inv X pins σ' H' s'/\RelV v u/\D.rt v H'
noncomputable def PE(X:Cx)(e:Expr)(t:TE):Prop:=
 ∀(pins:List (Addr×Obj)) (s:Shared) (σ:St) (H:Hp) (Q:VK),Inv X pins σ H s->t σ H Q->wpAny (model X.prog X.w) X.A (eval e X.env) (EP X pins σ Q) X.xe s
noncomputable def PT(X:Cx)(e:Expr)(t:TT):Prop:=
 ∀(pins:List (Addr×Obj)) (s:Shared) (σ:St) (H:Hp) (Q:Bool->Hp->Prop),Inv X pins σ H s->t σ H Q->wpAny (model X.prog X.w) X.A (isTrue e X.env (eval e X.env)) (TP X pins σ Q) X.xe s
noncomputable def PW(X:Cx)(e:Expr)(t:TT):Prop:=
 ∀(whole:Sem Value) (pins:List (Addr×Obj)) (s:Shared) (σ:St) (H:Hp) (Q:Bool->Hp->Prop),Inv X pins σ H s->t σ H Q->wpAny (model X.prog X.w) X.A (isTrue e X.env whole) (TP X pins σ Q) X.xe s
theorem PW.pt{X:Cx}{e:Expr}{t:TT}(h:PW X e t):PT X e t:=h _
noncomputable def PA(X:Cx)(es:List Expr)(t:TA):Prop:=
 ∀(pos:Pos) (pins:List (Addr×Obj)) (s:Shared) (σ:St) (H:Hp) (Q:List V->Hp->Prop),Inv X pins σ H s->t σ H Q->wpAny (model X.prog X.w) X.A (spliced (backTo pos (starEach es X.env))) (AP X pins σ Q) X.xe s
noncomputable def PS(X:Cx)(st:Stmt)(t:TS):Prop:=
 ∀(pins:List (Addr×Obj)) (s:Shared) (σ:St) (H:Hp) (D:Ends),Inv X pins σ H s->t D σ H->wpAny (model X.prog X.w) X.A (exec st X.env) (SP X pins D) X.xe s
noncomputable def PSs(X:Cx)(st:List Stmt)(t:TS):Prop:=
 ∀(pins:List (Addr×Obj)) (s:Shared) (σ:St) (H:Hp) (D:Ends),Inv X pins σ H s->t D σ H->wpAny (model X.prog X.w) X.A (execs st X.env) (SP X pins D) X.xe s
theorem thn{α:Type}{t:Sem α}{Q Q':α->Shared->Prop}{M:Model}{A:Around}{E:Value->Shared->Prop}{s:Shared}(h:wpAny M A t Q E s)(hQ:∀a s,Q a s->Q' a s):wpAny M A t Q' E s:=wpAny_mono h hQ λ_ _ x=>x
section
variable{X:Cx}
inductive tVar(i:Nat)(σ:St)(H:Hp)(Q:VK):Prop
 |mk:∀v,(σ[i]? =some (some v))->(Q v H)->tVar i σ H Q
noncomputable def tC(v:V):TE:=λ_ H Q=>Q v H
theorem bMZ{i:Nat}{x:Str}{pos:Pos}(hN:X.N[i]? =some x)(hv:Vis X.env.scope x)(hd:(x==("__debug__":Str))=false:=by decide)(hcd:(x==("__classdict__":Str))=false:=by decide):PE X (.Name x pos) (tVar i):=by
 intro pins s σ H Q I h;obtain⟨v,e,h⟩:=h;obtain⟨m,hn,hl⟩:=I.loc;obtain⟨u,r,l⟩:=hl i x v hN e hv;have fin:EP X pins σ Q u s:=⟨v,H,I,r,h⟩;rcases l with⟨hk,hm⟩|⟨hk,c,hc,hcell⟩
 ·exact wpAny_Name (wpAny_loadName_local I.ok.kind hk hn hm fin) hd
 ·rcases hk with hk|hk
  ·exact wpAny_Name (wpAny_loadName_cell I.ok.kind hk hc hcell fin) hd
  ·exact wpAny_Name (wpAny_loadName_free I.ok.kind hk hc hcell fin hcd) hd
theorem A3{i j pos}:PE X (.Constant (.int i) j pos) (tC (.int i)):=λ_ _ _ H _ I h=>wpAny_Constant_int ⟨.int i,H,I.tok _,⟨_,rfl⟩,h⟩
theorem EZ{b j pos}:PE X (.Constant (.bool b) j pos) (tC (.bl b)):=λ_ _ _ H _ I h=>Constant_bool ⟨.bl b,H,I,rfl,h⟩
theorem OR{j pos}:PE X (.Constant .none j pos) (tC .non):=λ_ _ _ H _ I h=>Constant_none ⟨.non,H,I,rfl,h⟩
theorem A7{x j pos}:PE X (.Constant (.str x) j pos) (tC (.str x)):=λ_ _ _ H _ I h=>Calls.Constant_str ⟨.str x,H,I.tok _,⟨_,rfl⟩,h⟩
noncomputable def Gl(X:Cx)(x:Str):Prop:=X.env.kindOf x=some .globalImplicit
theorem SK{E:Value->Shared->Prop}{pins:List (Addr×Obj)}{s:Shared}{σ:St}{H:Hp}{x:Str}{u:Value}{pos:Pos}{Q:Value->Shared->Prop}(I:Inv X pins σ H s)(hg:Gl X x)(hm:X.mg x=some u)(h:Q u s)
  (hd:(x==("__debug__":Str))=false:=by decide):wpAny (model X.prog X.w) X.A (eval (.Name x pos) X.env) Q E s:=
 Calls.Name_function_global I.ok.kind hg (Calls.loadGlobal_global (by rw[I.ok.glob];exact I.mod.glob.keeps I.bk) hm h) hd
theorem Q0{E:Value->Shared->Prop}{pins:List (Addr×Obj)}{s:Shared}{σ:St}{H:Hp}{x:Str}{u:Value}{pos:Pos}{Q:Value->Shared->Prop}(I:Inv X pins σ H s)(hg:Gl X x)(hm:X.mg x=none)(hv:bootBuiltins x=some u)(h:Q u s)
  (hn:x≠ "__name__":=by decide)(hd:(x==("__debug__":Str))=false:=by decide):wpAny (model X.prog X.w) X.A (eval (.Name x pos) X.env) Q E s:=by
 obtain⟨mb,h1,h2⟩:=I.mod.blt;exact Calls.Name_function_global I.ok.kind hg (Calls.loadGlobal_builtin (by rw[I.ok.glob];exact I.mod.glob.keeps I.bk) hm (by rw[I.ok.blt];exact h1.keeps I.bk) ((h2 x hn).trans hv) h) hd
theorem CJ{x:Str}{v:V}{u:Value}{pos:Pos}(hg:Gl X x)(hm:X.mg x=some u)(r:RelV v u)(hd:(x==("__debug__":Str))=false:=by decide):PE X (.Name x pos) (tC v):=
 λ_ _ _ H _ I h=>SK I hg hm ⟨v,H,I,r,h⟩ hd
theorem O1{x:Str}{v:V}{u:Value}{pos:Pos}(hg:Gl X x)(hm:X.mg x=none)(hv:bootBuiltins x=some u)(r:RelV v u)(hn:x≠ "__name__":=by decide)(hd:(x==("__debug__":Str))=false:=by decide):PE X (.Name x pos) (tC v):=
 λ_ _ _ H _ I h=>Q0 I hg hm hv ⟨v,H,I,r,h⟩ hn hd
variable{a b:Expr}{ta tb:TE}{pos:Pos}
variable{tA tB':TT}{rest:List Expr}
noncomputable def ddZ(t u:TT):TT:=fun σ H Q=>t σ H λc H1=>if c=true then u σ H1 Q else Q false H1
noncomputable def tOr(t u:TT):TT:=fun σ H Q=>t σ H λc H1=>if c=true then Q true H1 else u σ H1 Q
noncomputable def dgZ(t:TT):TT:=fun σ H Q=>t σ H λc H1=>Q (!c) H1
theorem M7(ha:PT X a tA):PW X (.BoolOp .And [a] pos) tA:=by
 intro wh pins s σ H Q I h;refine isTrue_and (thn (ha pins s σ H Q I h) λc s1 e=> ?_);cases c with
 |true=>exact isTrue_and_nil e
 |false=>exact e
theorem FL(ha:PT X a tA):PW X (.BoolOp .Or [a] pos) tA:=by
 intro wh pins s σ H Q I h;refine isTrue_or (thn (ha pins s σ H Q I h) λc s1 e=> ?_);cases c with
 |false=>exact isTrue_or_nil e
 |true=>exact e
theorem N1(ha:PT X a tA)(hb:PW X (.BoolOp .And (b::rest) pos) tB'):PW X (.BoolOp .And (a::b::rest) pos) (ddZ tA tB'):=by
 intro wh pins s σ H Q I h;refine isTrue_and (thn (ha pins s σ H _ I h) λc s1 ⟨H1,I1,q1⟩=> ?_);cases c with
 |true=>exact hb wh pins s1 σ H1 Q I1 q1
 |false=>exact⟨H1,I1,q1⟩
theorem IT(ha:PT X a tA)(hb:PW X (.BoolOp .Or (b::rest) pos) tB'):PW X (.BoolOp .Or (a::b::rest) pos) (tOr tA tB'):=by
 intro wh pins s σ H Q I h;refine isTrue_or (thn (ha pins s σ H _ I h) λc s1 ⟨H1,I1,q1⟩=> ?_);cases c with
 |true=>exact⟨H1,I1,q1⟩
 |false=>exact hb wh pins s1 σ H1 Q I1 q1
theorem DN(ha:PT X a tA):PT X (.UnaryOp .Not a pos) (dgZ tA):=by
 intro pins s σ H Q I h;exact isTrue_not (ha pins s σ H (λc H1=>Q (!c) H1) I h)
noncomputable def cNZ(ta tb:TE):TE:=fun σ H Q=>ta σ H λx H1=>∃c,x=.bl c/\if c=true then tb σ H1 Q else Q (.bl false) H1
noncomputable def ckZ(ta:TE):TE:=fun σ H Q=>ta σ H λx H1=>∃c,x=.bl c/\Q (.bl (!c)) H1
theorem YM{op}{t:TE}(h:PE X a t):PE X (.BoolOp op [a] pos) t:=λpins s σ H Q I hw=>BoolOp_one (h pins s σ H Q I hw)
theorem WU(ha:PE X a ta)(hb:PE X (.BoolOp .And (b::rest) pos) tb):PE X (.BoolOp .And (a::b::rest) pos) (cNZ ta tb):=by
 intro pins s σ H Q I h;refine BoolOp_and (thn (ha pins s σ H _ I h) λv s1 ⟨x,H1,I1,r1,q1⟩=> ?_);obtain⟨c,rfl,q1⟩:=q1;cases r1;refine wpAny_truthy_bool ?_;cases c with
 |true=>exact hb pins s1 σ H1 Q I1 q1
 |false=>exact⟨.bl false,H1,I1,rfl,q1⟩
theorem YI(ha:PE X a ta):PE X (.UnaryOp .Not a pos) (ckZ ta):=by
 intro pins s σ H Q I h;refine UnaryOp_ (thn (ha pins s σ H _ I h) λv s1 ⟨x,H1,I1,r1,q1⟩=> ?_);obtain⟨c,rfl,q1⟩:=q1;cases r1;exact not_of (wpAny_truthy_bool ⟨.bl (!c),H1,I1,rfl,q1⟩)
noncomputable def tIf(t:TT)(ta tb:TE):TE:=fun σ H Q=>t σ H λc H1=>if c=true then ta σ H1 Q else tb σ H1 Q
theorem Y0{c:Expr}(hc:PT X c tA)(ha:PE X a ta)(hb:PE X b tb):PE X (.IfExp c a b pos) (tIf tA ta tb):=by
 intro pins s σ H Q I h;refine wpAny_IfExp (thn (hc pins s σ H _ I h) λd s1 ⟨H1,I1,q1⟩=> ?_);cases d with
 |true=>exact ha pins s1 σ H1 Q I1 q1
 |false=>exact hb pins s1 σ H1 Q I1 q1
end
noncomputable def SqL(K:FZ)(H:Hp)(a:Addr)(xs:List V):Prop:=
 Rd H a (.lst xs)\/
  ∃(o:Obj) (its:Array Value) (n:Nat),K.lookup a=some o/\o.cls=.type "list"/\o.dict=none/\o.data=.seq its n/\its.size<=sizeLine/\Vals xs its.toList
noncomputable def SqT(K:FZ)(H:Hp)(a:Addr)(xs:List V):Prop:=
 Rd H a (.tup xs)\/
  ∃(o:Obj) (its:Array Value) (n:Nat),K.lookup a=some o/\o.cls=.type "tuple"/\o.data=.seq its n/\its.size<=sizeLine/\Vals xs its.toList
noncomputable def dmZ:Value->Option V
 | .none=>some .non
 | .bool b=>some (.bl b)
 | .int i _=>some (.int i)
 | .str x _=>some (.str x)
 | .bytes b _=>some (.byt b)
 | .float b _=>some (.flt b)
 | .ref a=>some (.ref a)
 | .type n=>some (.ty n)
 |_=>none
theorem RelV.abs{x:V}{u:Value}(r:RelV x u):dmZ u=some x:=by
 cases x with
 |non=>cases r;rfl
 |bl _=>cases r;rfl
 |int _=>obtain⟨t,rfl⟩:=r;rfl
 |str _=>obtain⟨t,rfl⟩:=r;rfl
 |byt _=>obtain⟨t,rfl⟩:=r;rfl
 |flt _=>obtain⟨t,rfl⟩:=r;rfl
 |ref _=>cases r;rfl
 |ty _=>cases r;rfl
theorem RelV.inj{x y:V}{u:Value}(r:RelV x u)(q:RelV y u):x=y:=Option.some.inj (r.abs.symm.trans q.abs)
theorem Vals.inj:∀ {xs ys:List V} {us:List Value},Vals xs us->Vals ys us->xs=ys
 |_,_,_,.nil,.nil=>rfl
 |_,_,_,.cons r t,.cons r' t'=>by rw[r.inj r',Vals.inj t t']
section
variable{X:Cx}{pins:List (Addr×Obj)}{σ:St}{H:Hp}{s:Shared}{a:Addr}{xs ys:List V}
theorem SqL.of{K:FZ}(h:H a=some (.lst xs)):SqL K H a xs:=.inl (.inl h)
theorem SqT.of{K:FZ}(h:H a=some (.tup xs)):SqT K H a xs:=.inl (.inl h)
theorem Inv.list(I:Inv X pins σ H s)(h:SqL X.K H a xs):∃its:List Value,Vals xs its/\PlainL s.heap a its.toArray/\xs.length<=sizeLine:=by
 rcases h with h|⟨o,its,n,hk,hc,hd,hs,hz,r⟩
 ·obtain⟨z,its,n,r,e⟩:=h.ok I.hok;exact⟨its,r,⟨_,n,e,rfl,rfl,rfl⟩,z⟩
 ·refine⟨its.toList,r,⟨o,n,I.kIn a o hk,hc,hd,by simpa using hs⟩, ?_⟩;have e:=r.length;simp only[Array.length_toList]at e;omega
theorem Inv.tuple(I:Inv X pins σ H s)(h:SqT X.K H a xs):∃its:List Value,Vals xs its/\IsTup s.heap a its.toArray/\xs.length<=sizeLine:=by
 rcases h with h|⟨o,its,n,hk,hc,hs,hz,r⟩
 ·obtain⟨z,its,r,p⟩:=h.ok I.hok;exact⟨its,r,p,z⟩
 ·refine⟨its.toList,r,⟨o,I.kIn a o hk,hc,n,by simpa using hs⟩, ?_⟩;have e:=r.length;simp only[Array.length_toList]at e;omega
theorem Inv.list_inj(I:Inv X pins σ H s)(h:SqL X.K H a xs)(h':SqL X.K H a ys):xs=ys:=by
 obtain⟨its,r,⟨o,n,e,_,_,d⟩,_⟩:=I.list h;obtain⟨its',r',⟨o',n',e',_,_,d'⟩,_⟩:=I.list h';rw[e]at e';cases e';rw[d]at d';injection d' with d1 _
 have:its=its':=by simpa using congrArg Array.toList d1
 subst this;exact r.inj r'
theorem Inv.tuple_inj(I:Inv X pins σ H s)(h:SqT X.K H a xs)(h':SqT X.K H a ys):xs=ys:=by
 obtain⟨its,r,⟨o,e,_,n,d⟩,_⟩:=I.tuple h;obtain⟨its',r',⟨o',e',_,n',d'⟩,_⟩:=I.tuple h';rw[e]at e';cases e';rw[d]at d';injection d' with d1 _
 have:its=its':=by simpa using congrArg Array.toList d1
 subst this;exact r.inj r'
end
noncomputable abbrev Cx.wish(X:Cx)(E:Value->Shared->Prop):Cx:={X with xe:=E}
noncomputable abbrev Cx.nox(X:Cx):Cx:=X.wish λ_ _=>False
theorem Cx.Ok.wish{X:Cx}(ok:X.Ok)(E:Value->Shared->Prop):(X.wish E).Ok:=
 ⟨ok.mod,ok.kind,ok.glob,ok.blt,ok.above,ok.inj,ok.has,ok.cab,ok.hd,ok.frames,ok.stk,ok.exf,ok.bs,ok.bsz,ok.noex,ok.exfs,ok.funs,ok.frf⟩
theorem Cx.Ok.unwish{X:Cx}{E:Value->Shared->Prop}(ok:(X.wish E).Ok):X.Ok:=
 ⟨ok.mod,ok.kind,ok.glob,ok.blt,ok.above,ok.inj,ok.has,ok.cab,ok.hd,ok.frames,ok.stk,ok.exf,ok.bs,ok.bsz,ok.noex,ok.exfs,ok.funs,ok.frf⟩
section
variable{X:Cx}{pins:List (Addr×Obj)}{σ:St}{H:Hp}{s:Shared}{E:Value->Shared->Prop}
theorem Inv.wish(I:Inv X pins σ H s)(E:Value->Shared->Prop):Inv (X.wish E) pins σ H s:=⟨I.ok.wish E,I.os,I.bare,I.base,I.loc,I.cell,I.free,I.freeC,I.pin,I.hok,I.len⟩
theorem Inv.unwish(I:Inv (X.wish E) pins σ H s):Inv X pins σ H s:=⟨I.ok.unwish,I.os,I.bare,I.base,I.loc,I.cell,I.free,I.freeC,I.pin,I.hok,I.len⟩
theorem SP.unwish{D:Ends}{f:Flow}{s':Shared}(h:SP (X.wish E) pins D f s'):SP X pins D f s':=by
 cases f with
 |next=>obtain⟨σ',H',I,q⟩:=h;exact⟨σ',H',I.unwish,q⟩
 |brk=>obtain⟨σ',H',I,q⟩:=h;exact⟨σ',H',I.unwish,q⟩
 |cont=>obtain⟨σ',H',I,q⟩:=h;exact⟨σ',H',I.unwish,q⟩
 |ret u=>obtain⟨v,σ',H',I,r,q⟩:=h;exact⟨v,σ',H',I.unwish,r,q⟩
theorem PSs.nox{st:List Stmt}{t:TS}(h:PSs X.nox st t):PSs X st t:=λpins s σ H D I hw=>
 wpAny_mono (h pins s σ H D (I.wish _) hw) (λ_ _ q=>q.unwish) λ_ _ z=>False.elim z
variable{st:Stmt}{rest:List Stmt}{t u:TS}{e:Expr}{te:TE}{pos:Pos}
noncomputable def cSZ:TS:=λD σ H=>D.nx σ H
noncomputable def S9(t u:TS):TS:=λD σ H=>t {D with nx:=u D} σ H
theorem B6:PSs X [] cSZ:=λ_ _ σ H _ I h=>wpAny_execs_nil ⟨σ,H,I,h⟩
theorem A6(h1:PS X st t)(h2:PSs X rest u):PSs X (st::rest) (S9 t u):=by
 intro pins s σ H D I h;refine wpAny_execs_cons (thn (h1 pins s σ H {D with nx:=u D} I h) λf s1 q=> ?_);cases f with
 |next=>
  obtain⟨σ',H',I',q⟩:=q;exact h2 pins s1 σ' H' D I' q
 |ret v=>exact q
 |brk=>exact q
 |cont=>exact q
theorem A9(h1:PS X st t):PSs X [st] t:=by
 intro pins s σ H D I h;refine wpAny_execs_cons (thn (h1 pins s σ H D I h) λf s1 q=> ?_);cases f with
 |next=>exact wpAny_execs_nil q
 |ret v=>exact q
 |brk=>exact q
 |cont=>exact q
theorem Inv.quiet{pins:List (Addr×Obj)}{σ:St}{H:Hp}{s:Shared}(I:Inv X pins σ H s):interactive X.env=false:=by simp[interactive,I.ok.kind]
noncomputable def cGZ(te:TE):TS:=λD σ H=>te σ H λ_ H1=>D.nx σ H1
theorem CI(he:PE X e te)(hs:swapsWith e none pos.line X.env=pure false:=by rfl):PS X (.Expr e pos) (cGZ te):=by
 intro pins s σ H D I h;exact wpAny_Expr_any (thn (he pins s σ H _ I h) λv s1 ⟨x,H1,I1,r1,q1⟩=>⟨σ,H1,I1,q1⟩) I.quiet hs
noncomputable def cBZ(te:TE):TS:=λD σ H=>te σ H D.rt
theorem B4(he:PE X e te):PS X (.Return (some e) pos) (cBZ te):=by
 intro pins s σ H D I h;exact wpAny_Return_some (thn (he pins s σ H _ I h) λv s1 ⟨x,H1,I1,r1,q1⟩=>⟨x,σ,H1,I1,r1,q1⟩)
noncomputable def c8Z(c:TT)(t u:TS):TS:=λD σ H=>c σ H λb H1=>if b=true then t D σ H1 else u D σ H1
theorem B7{c:Expr}{a b:List Stmt}{tc:TT}(hc:PT X c tc)(ha:PSs X a t)(hb:PSs X b u):PS X (.If c a b pos) (c8Z tc t u):=by
 intro pins s σ H D I h;refine wpAny_If (thn (hc pins s σ H _ I h) λd s1 ⟨H1,I1,q1⟩=> ?_);cases d with
 |true=>exact ha pins s1 σ H1 D I1 q1
 |false=>exact hb pins s1 σ H1 D I1 q1
end
noncomputable abbrev TG:=V->St->Hp->(St->Hp->Prop)->Prop
noncomputable abbrev TGs:=List V->St->Hp->(St->Hp->Prop)->Prop
noncomputable def PG(X:Cx)(target:Expr)(t:TG):Prop:=
 ∀(pins:List (Addr×Obj)) (s:Shared) (σ:St) (H:Hp) (v:V) (u:Value) (Q:St->Hp->Prop),Inv X pins σ H s->RelV v u->t v σ H Q->
  wpAny (model X.prog X.w) X.A (assign target X.env u) (λ_ s'=>∃σ' H',Inv X pins σ' H' s'/\Q σ' H') X.xe s
noncomputable def PGs(X:Cx)(ts:List Expr)(t:TGs):Prop:=
 ∀(pins:List (Addr×Obj)) (s:Shared) (σ:St) (H:Hp) (vs:List V) (us:List Value) (Q:St->Hp->Prop),Inv X pins σ H s->Vals vs us->t vs σ H Q->
  wpAny (model X.prog X.w) X.A (assignInOrder ((assignEach ts X.env).map (·.2)) us) (λ_ s'=>∃σ' H',Inv X pins σ' H' s'/\Q σ' H') X.xe s
noncomputable abbrev bPZ:=V->V->V->Hp->(Hp->Prop)->Prop
noncomputable def baZ(X:Cx)(t:bPZ):Prop:=
 ∀(pins:List (Addr×Obj)) (s:Shared) (σ:St) (H:Hp) (o i v:V) (ov iv u:Value) (Q:Hp->Prop),Inv X pins σ H s->RelV o ov->RelV i iv->RelV v u->t o i v H Q->
  wpAny (model X.prog X.w) X.A (setItem ov iv u) (λ_ s'=>∃H',Inv X pins σ H' s'/\Q H') X.xe s
section
variable{X:Cx}{pos:Pos}
noncomputable def GD(i:Nat):TG:=λv σ H Q=>Q (σ.set i (some v)) H
theorem EV{i:Nat}{x:Str}(hN:X.N.Nodup)(hi:X.N[i]? =some x)(hx:Loc X.env.scope x)(hf:X.fn x=true\/X.env.scope.names.lookup x=some .local:=by first|exact .inl rfl|exact .inr rfl|assumption):PG X (.Name x pos) (GD i):=by
 intro pins s σ H v u Q I r h;exact wpAny_assign_Name (IC I hN hi hx r (λs' I'=>⟨_,H,I',h⟩) hf)
noncomputable def cFZ:TGs:=λvs σ H Q=>vs=[]/\Q σ H
noncomputable def VF(t:TG)(u:TGs):TGs:=λvs σ H Q=>∃v r,vs=v::r/\t v σ H fun σ' H'=>u r σ' H' Q
theorem CK:PGs X [] cFZ:=by
 intro pins s σ H vs us Q I r h;obtain⟨e,h⟩:=h;subst e;cases r;exact assignInOrder_nil ⟨σ,H,I,h⟩
theorem O4{e:Expr}{es:List Expr}{t:TG}{u:TGs}(h1:PG X e t)(h2:PGs X es u)
  (hs:(assignEach (e::es) X.env).map (·.2)=assign e X.env::(assignEach es X.env).map (·.2):=by rfl):PGs X (e::es) (VF t u):=by
 intro pins s σ H vs us Q I r h;obtain⟨v,vr,e1,h⟩:=h;subst e1;cases r with
 |cons r rr=>
  rw[hs];refine assignInOrder_cons (thn (h1 pins s σ H _ _ _ I r h) λ_ s1 ⟨σ1,H1,I1,q1⟩=> ?_);exact h2 pins s1 σ1 H1 _ _ Q I1 rr q1
noncomputable def cyZ(K:FZ)(n:Nat)(t:TGs):TG:=λv σ H Q=>∃a xs,v=.ref a/\SqT K H a xs/\xs.length=n/\t xs σ H Q
theorem FQ{es:List Expr}{k:Nat}{t:TGs}{n:Nat}(hc:X.calm=true)(h:PGs X es t)
  (hn:(assignEach es X.env).length=n:=by rfl)(hst:(assignEach es X.env).findIdx? (·.1)=none:=by rfl):PG X (.Tuple es k pos) (cyZ X.K n t):=by
 intro pins s σ H v u Q I r hw;obtain⟨a,xs,e1,hq,hl,hw⟩:=hw;subst e1;cases r;obtain⟨its,rv,ht,hz⟩:=I.tuple hq;refine assign_Tuple_tuple (I.ok.hd hc) ht (by simp[hn,<-hl,rv.length]) hst λh' hx=> ?_;have I1:Inv X pins σ H {s with heap:=h'}:=I.kept (t':=s.toks) λb o e=>hx b o (ne_of_lt (lt_size e)) e;exact h pins _ σ H xs _ Q I1 (by simpa using rv) hw
noncomputable def dhZ(to ti:TE)(t:bPZ):TG:=λv σ H Q=>to σ H λo H1=>ti σ H1 λi H2=>t o i v H2 λH3=>Q σ H3
theorem DU{o i:Expr}{to ti:TE}{t:bPZ}(ho:PE X o to)(hi:PE X i ti)(hs:baZ X t)
  (ha:∀v,assign (.Subscript o i pos) X.env v=(do
   let ov<-holding [v] (eval o X.env);let iv<-holding [v,ov] (eval i X.env)
   standAt pos
   holding [v,ov,iv] (setItem ov iv v)
   release [v,ov,iv] []):=by intro _;rfl):PG X (.Subscript o i pos) (dhZ to ti t):=by
 intro pins s σ H v u Q I r h;rw[ha];refine bZ (wpAny_holding (thn (ho pins s σ H _ I h) λov s1 ⟨x,H1,I1,r1,q1⟩=> ?_));refine bZ (wpAny_holding (thn (hi pins s1 σ H1 _ I1 q1) λiv s2 ⟨y,H2,I2,r2,q2⟩=> ?_));refine bZ (wpAny_standAt (bZ (wpAny_holding (thn (hs pins s2 σ H2 x y v ov iv u _ I2 r1 r2 r q2) λ_ s3 ⟨H3,I3,q3⟩=> ?_))));exact wpAny_release ⟨σ,H3,I3,q3⟩
noncomputable def XJ(te:TE)(g:TG):TS:=λD σ H=>te σ H λx H1=>g x σ H1 D.nx
theorem Z7{tg e:Expr}{te:TE}{g:TG}(he:PE X e te)(hg:PG X tg g)(hs:swapsWithSole [tg] e pos.line X.env=pure false:=by rfl)(hw:swappedStores [tg] e X.env=pure none:=by rfl)
  (h1:(assignEach [tg] X.env).map (·.2)=[assign tg X.env]:=by rfl):PS X (.Assign [tg] e pos) (XJ te g):=by
 intro pins s σ H D I h;refine wpAny_Assign_stores (thn (he pins s σ H _ I h) λv s1 ⟨x,H1,I1,r1,q1⟩=> ?_) hs hw;rw[h1];exact thn (hg pins s1 σ H1 x v _ I1 r1 q1) λ_ s2 q=>q
theorem BS{i:Nat}{x:Str}{e:Expr}{te:TE}{pos':Pos}(hN:X.N.Nodup)(hi:X.N[i]? =some x)(hx:Loc X.env.scope x)(he:PE X e te)(hs:swapsWith e (some (.Name x pos')) pos.line X.env=pure false:=by rfl)(hf:X.fn x=true\/X.env.scope.names.lookup x=some .local:=by first|exact .inl rfl|exact .inr rfl|assumption):
  PS X (.Assign [.Name x pos'] e pos) (XJ te (GD i)):=by
 intro pins s σ H D I h;refine wpAny_Assign_Name (thn (he pins s σ H _ I h) λv s1 ⟨y,H1,I1,r1,q1⟩=> ?_) hs;exact IC I1 hN hi hx r1 (λs2 I2=>⟨_,H1,I2,q1⟩) hf
noncomputable def bcZ(c:TT)(tb:TS):TS:=λD σ H=>∃W:Nat->St->Hp->Prop,(∃m,W m σ H)/\∀m σ H,W m σ H->
 c σ H λb H1=>if b=true then∃N:St->Hp->Prop,(∀σ' H',N σ' H'->∃m',m'<m/\W m' σ' H')/\tb {D with nx:=N,ct:=N,bk:=D.nx} σ H1 else D.nx σ H1
theorem WQ{c:Expr}{body:List Stmt}{tc:TT}{tb:TS}(hp:PassesOwn (model X.prog X.w) X.A X.env X.xe)(hc:PT X c tc)(hb:PSs X body tb):PS X (.While c body [] pos) (bcZ tc tb):=by
 intro pins s σ H D I h;obtain⟨W,⟨m0,w0⟩,turn⟩:=h;refine wpAny_While (codeAny_whileLoop (λn s'=>∃σ' H',Inv X pins σ' H' s'/\W n σ' H') ?_ m0 ⟨σ,H,I,w0⟩);rintro n s1 ⟨σ1,H1,I1,w1⟩;refine wpAny_passesOwn hp (thn (hc pins s1 σ1 H1 _ I1 (turn n σ1 H1 w1)) λb s2 ⟨H2,I2,q2⟩=> ?_);cases b with
 |true=>
  obtain⟨N,hN,q2⟩:=q2;rw[if_pos rfl];refine wpAny_passesOwn hp (thn (hb pins s2 σ1 H2 _ I2 q2) λf s3 q3=> ?_);cases f with
  |next=>
   obtain⟨σ3,H3,I3,n3⟩:=q3;obtain⟨m',hm,w3⟩:=hN σ3 H3 n3;exact⟨m',hm,σ3,H3,I3,w3⟩
  |cont=>
   obtain⟨σ3,H3,I3,n3⟩:=q3;obtain⟨m',hm,w3⟩:=hN σ3 H3 n3;exact⟨m',hm,σ3,H3,I3,w3⟩
  |brk=>exact q3
  |ret v=>exact q3
 |false=>
  rw[if_neg nZ];exact wpAny_execs_nil ⟨σ1,H2,I2,q2⟩
end
structure It where
 go:Nat->Hp->Prop
 yld:Nat->Hp->V->Hp->Prop
 stop:Nat->Hp->Prop
noncomputable def JD(X:Cx)(pins:List (Addr×Obj))(H:Hp)(b:Addr):Prop:=
 H b=none/\b≠X.env.locals/\b∉X.fs/\(b∈X.ex\/X.s₀.heap.objs.size<=b)/\(∀x c,X.env.cells.lookup x=some c->c≠b)/\∀p∈X.pn++pins,p.1≠b
theorem Inv.fpOk{X:Cx}{pins:List (Addr×Obj)}{σ:St}{H H':Hp}{s:Shared}{b:Addr}(I:Inv X pins σ H s)(hb:s.heap.objs.size<=b)(hn:H' b=none):JD X pins H' b:=by
 refine⟨hn,Nat.ne_of_gt (lt_of_lt_of_le I.lt hb),I.nofs hb,.inr (Nat.le_trans I.sz hb),λx c e z=> ?_,λp hp z=> ?_⟩
 ·obtain⟨v,q⟩:=I.cell x c e;exact absurd (lt_of_lt_of_le q.lt (by rw[z];exact hb)) (lt_irrefl _)
 ·exact absurd (lt_of_lt_of_le (lt_size (I.pin p hp).1) (by rw[z];exact hb)) (lt_irrefl _)
structure Turn (P:Program) (w:World) (K:FZ) (tg:Expr) (J:It) (fp:List Addr) (it:Addr) (tn:Nat->Heap->Prop):Prop where
 mem:it∈fp
 obj:∀i h,tn i h->∀b∈fp,∃o,h.get? b=some o/\∀v,o.data≠ .cell v
 keep:∀i h h',tn i h->(∀b∈fp,∀o,h.get? b=some o->h'.get? b=some o)->tn i h'
 item:∀(X:Cx),X.prog=P->X.w=w->X.K=K->X.calm=true->∀(i:Nat) (pins:List (Addr×Obj)) (s:Shared) (σ:St) (H:Hp) (E:Value->Shared->Prop),Inv X pins σ H s->(∀b∈fp,JD X pins H b)->tn i s.heap->J.go i H->
  wpAny (model P w) X.A (pyNext (.ref it)) (λr s1=>∃u,r=some u/\
   wpAny (model P w) X.A (letOwnedTupleGo tg (.ref it) u) (λ_ s2=>∃x H',Inv X pins σ H' s2/\RelV x u/\J.yld i H x H'/\tn (i+1) s2.heap/\∀b∈fp,H' b=none) E s1) E s
 done:∀(X:Cx),X.prog=P->X.w=w->X.K=K->X.calm=true->∀(i:Nat) (pins:List (Addr×Obj)) (s:Shared) (σ:St) (H:Hp) (E:Value->Shared->Prop),Inv X pins σ H s->(∀b∈fp,JD X pins H b)->tn i s.heap->J.stop i H->
  wpAny (model P w) X.A (pyNext (.ref it)) (λr s1=>r=none/\Inv X pins σ H s1) E s
 self:∀(A:Around) (i:Nat) (s:Shared) (Q:Value->Shared->Prop) (E:Value->Shared->Prop),tn i s.heap->Q (.ref it) s->wpAny (model P w) A (pyIter (.ref it)) Q E s
noncomputable abbrev TI:=St->Hp->(It->Hp->Prop)->Prop
noncomputable def PIE(X:Cx)(pins:List (Addr×Obj))(σ:St)(tg:Expr)(R:It->Hp->Prop)(itv:Value)(s2:Shared):Prop:=
 ∃(it:Addr) (fp:List Addr) (tn:Nat->Heap->Prop) (J:It) (H':Hp),itv=.ref it/\Inv X pins σ H' s2/\Turn X.prog X.w X.K tg J fp it tn/\tn 0 s2.heap/\(∀b∈fp,JD X pins H' b)/\R J H'
noncomputable def PI(X:Cx)(tg iter:Expr)(wi:TI):Prop:=
 ∀(pins:List (Addr×Obj)) (s:Shared) (σ:St) (H:Hp) (R:It->Hp->Prop),Inv X pins σ H s->wi σ H R->
  wpAny (model X.prog X.w) X.A (eval iter X.env) (λv s1=>wpAny (model X.prog X.w) X.A (pyIter v) (PIE X pins σ tg R) X.xe s1) X.xe s
theorem RZ{M:Model}{A:Around}{E:Value->Shared->Prop}{s:Shared}{tg:Expr}{it:Addr}{u:Value}{o:Obj}{n:String}{vs:Array Value}{Q:Unit->Shared->Prop}(ho:s.heap.get? it=some o)(hc:o.cls=.type n)(hd:o.data=.fields vs)
  (hn: ["enumerate","zip","dict_itemiterator","dict_reverseitemiterator","odict_iterator","itertools.zip_longest","itertools.pairwise"].contains n=false)(hQ:Q () s):wpAny M A (letOwnedTupleGo tg (.ref it) u) Q E s:=by
 unfold letOwnedTupleGo;cases tg<;>first
  |exact pZ hQ
  |(cases u<;>first
    |exact pZ hQ
    |(refine bZ (wpAny_load ho ?_)
      rw[hc,hd];show wpAny M A (if(["enumerate","zip","dict_itemiterator","dict_reverseitemiterator","odict_iterator","itertools.zip_longest","itertools.pairwise"].contains n&&vs[0]? ==some (rawInt _))=true then _ else _) Q E s;rw[if_neg (by intro h;rw[hn,Bool.false_and]at h;cases h)];exact pZ hQ))
noncomputable def Itl(K:FZ)(a:Addr):It:=
 ⟨λi H=>∃xs x,SqL K H a xs/\xs[i]? =some x,λi H x H'=>H'=H/\∀xs,SqL K H a xs->xs[i]? =some x,λi H=>∃xs,SqL K H a xs/\xs.length<=i⟩
noncomputable def Itt(K:FZ)(a:Addr):It:=
 ⟨λi H=>∃xs x,SqT K H a xs/\xs[i]? =some x,λi H x H'=>H'=H/\∀xs,SqT K H a xs->xs[i]? =some x,λi H=>∃xs,SqT K H a xs/\xs.length<=i⟩
noncomputable def Itr(lo:Int)(n:Nat):It:=⟨λi _=>i<n,λi H x H'=>H'=H/\x=.int (lo+i),λi _=>n<=i⟩
theorem UJ{P:Program}{w:World}{K:FZ}{tg:Expr}(a it:Addr):Turn P w K tg (Itl K a) [it] it (λi h=>h.IsListIter it a i) where
 mem:=by simp
 obj:=λi h st b hb=>by
  have e:b=it:=by simpa using hb
  subst e;obtain⟨o,e,c,d⟩:=st;exact⟨o,e,λv z=>by rw[d]at z;cases z⟩
 keep:=λi h h' st k=>st.at λo e=>k it (by simp) o e
 item:=by
  intro X hP hw hK hc i pins s σ H E I hf st hg;subst hP hw hK;obtain⟨xs,x,hq,hx⟩:=hg;obtain⟨its,rv,p,hz⟩:=I.list hq;obtain⟨u,hu,ru⟩:=rv.get hx;obtain⟨f0,f1,f2,f3,f4,f5⟩:=hf it (by simp);refine wpAny_pyNext_list_item st p.isList (x:=u) (by simpa using hu) λh' st' sb=> ?_;have I1:Inv X pins σ H {s with heap:=h'}:=I.turned (t':=s.toks) (λb o hb e=>(sb.2 b hb).trans e) f0 f1 f3 f4 f5;obtain⟨o,e,c,d⟩:=id st';exact⟨u,rfl,RZ (s:={s with heap:=h'}) e c d (by decide) ⟨x,H,I1,ru,⟨rfl,λys hy=>by rw[I.list_inj hy hq];exact hx⟩,st',λb hb=>(hf b hb).1⟩⟩
 done:=by
  intro X hP hw hK hc i pins s σ H E I hf st hg;subst hP hw hK;obtain⟨xs,hq,hx⟩:=hg;obtain⟨its,rv,p,hz⟩:=I.list hq;obtain⟨f0,f1,f2,f3,f4,f5⟩:=hf it (by simp);have hl:=rv.length;exact wpAny_pyNext_list_end (I.ok.hd hc) st p.isList (by simp;omega) λh' eb=>⟨rfl,I.turned (t':=s.toks) (λb o hb e=>eb b o hb e) f0 f1 f3 f4 f5⟩
 self:=λ_ _ _ _ _ st h=>wpAny_pyIter_listiter st h
theorem QR{P:Program}{w:World}{K:FZ}{tg:Expr}(a it:Addr):Turn P w K tg (Itt K a) [it] it (λi h=>h.IsTupleIter it a i) where
 mem:=by simp
 obj:=λi h st b hb=>by
  have e:b=it:=by simpa using hb
  subst e;obtain⟨o,e,c,d⟩:=st;exact⟨o,e,λv z=>by rw[d]at z;cases z⟩
 keep:=λi h h' st k=>st.at λo e=>k it (by simp) o e
 item:=by
  intro X hP hw hK hc i pins s σ H E I hf st hg;subst hP hw hK;obtain⟨xs,x,hq,hx⟩:=hg;obtain⟨its,rv,p,hz⟩:=I.tuple hq;obtain⟨u,hu,ru⟩:=rv.get hx;obtain⟨f0,f1,f2,f3,f4,f5⟩:=hf it (by simp);refine wpAny_pyNext_tuple_item st (show s.heap.IsTuple a its.toArray from p) (x:=u) (by simpa using hu) λh' st' sb=> ?_;have I1:Inv X pins σ H {s with heap:=h'}:=I.turned (t':=s.toks) (λb o hb e=>(sb.2 b hb).trans e) f0 f1 f3 f4 f5;obtain⟨o,e,c,d⟩:=id st';exact⟨u,rfl,RZ (s:={s with heap:=h'}) e c d (by decide) ⟨x,H,I1,ru,⟨rfl,λys hy=>by rw[I.tuple_inj hy hq];exact hx⟩,st',λb hb=>(hf b hb).1⟩⟩
 done:=by
  intro X hP hw hK hc i pins s σ H E I hf st hg;subst hP hw hK;obtain⟨xs,hq,hx⟩:=hg;obtain⟨its,rv,p,hz⟩:=I.tuple hq;obtain⟨f0,f1,f2,f3,f4,f5⟩:=hf it (by simp);have hl:=rv.length;exact wpAny_pyNext_tuple_end (I.ok.hd hc) st (show s.heap.IsTuple a its.toArray from p) (by simp;omega) λh' eb=>⟨rfl,I.turned (t':=s.toks) (λb o hb e=>eb b o hb e) f0 f1 f3 f4 f5⟩
 self:=λ_ _ _ _ _ st h=>wpAny_pyIter_tupleiter st h
theorem OY{P:Program}{w:World}{K:FZ}{tg:Expr}(it:Addr)(lo:Int)(n:Nat):Turn P w K tg (Itr lo n) [it] it (λi h=>IsRangeIter h it (lo+(i:Nat)*1) ((n:Int) - (i:Nat)) 1) where
 mem:=by simp
 obj:=λi h st b hb=>by
  have e:b=it:=by simpa using hb
  subst e;exact⟨_,st,λv z=>by
   have z':Data.fields _=Data.cell v:=z;cases z'⟩
 keep:=λi h h' st k=>k it (by simp) _ st
 item:=by
  intro X hP hw hK hc i pins s σ H E I hf st hg;subst hP hw hK;obtain⟨f0,f1,f2,f3,f4,f5⟩:=hf it (by simp);have W:=Walks.range (prog:=X.prog) (w:=X.w) (I.ok.hd hc) it lo 1 n;refine W.item i s _ _ hg st λv h' tk hv st' kk=> ?_;obtain⟨t,rfl⟩:=hv;have I1:Inv X pins σ H {s with heap:=h',toks:=tk}:=I.turned (λb o hb e=>kk b o (by simpa using hb) e) f0 f1 f3 f4 f5;refine⟨_,rfl,RZ (s:={s with heap:=h',toks:=tk}) (n:="range_iterator") st' rfl rfl (by decide) ⟨.int (lo+i),H,I1,⟨t, ?_⟩,⟨rfl,rfl⟩,st',λb hb=>(hf b hb).1⟩⟩;rw[Int.mul_one]
 done:=by
  intro X hP hw hK hc i pins s σ H E I hf st hg;subst hP hw hK;obtain⟨f0,f1,f2,f3,f4,f5⟩:=hf it (by simp);exact wpAny_pyNext_range_end (I.ok.hd hc) st (by have:n<=i:=hg;omega) λh' eb=>⟨rfl,I.turned (t':=s.toks) (λb o hb e=>eb b o hb e) f0 f1 f3 f4 f5⟩
 self:=λ_ _ _ _ _ st h=>wpAny_pyIter_rangeiter st h
section
variable{X:Cx}{tg:Expr}
noncomputable def aFZ(K:FZ)(tl:TE):TI:=fun σ H R=>tl σ H λx H1=>∃a,x=.ref a/\(∃xs,SqL K H1 a xs)/\R (Itl K a) H1
noncomputable def cpZ(K:FZ)(tl:TE):TI:=fun σ H R=>tl σ H λx H1=>∃a,x=.ref a/\(∃xs,SqT K H1 a xs)/\R (Itt K a) H1
theorem aiZ{l:Expr}{tl:TE}(hl:PE X l tl):PI X tg l (aFZ X.K tl):=by
 intro pins s σ H R I h;refine thn (hl pins s σ H _ I h) λv s1 ⟨x,H1,I1,r1,q1⟩=> ?_;obtain⟨a,e,⟨xs,hq⟩,q⟩:=q1;subst e;cases r1;obtain⟨its,rv,p,hz⟩:=I1.list hq;refine wpAny_pyIter_list p.isList ?_;refine⟨s1.heap.objs.size,[s1.heap.objs.size],_,_,H1,rfl,I1.kept (t':=s1.toks) λb o e=>gZ _ e,UJ a _,⟨_,get?_push_size _ rfl,rfl,rfl⟩,λb hb=> ?_,q⟩;have e:b=s1.heap.objs.size:=by simpa using hb
 subst e;exact I1.fpOk (Nat.le_refl _) (I1.hok.fresh (Nat.le_refl _))
theorem b9Z{l:Expr}{tl:TE}(hl:PE X l tl):PI X tg l (cpZ X.K tl):=by
 intro pins s σ H R I h;refine thn (hl pins s σ H _ I h) λv s1 ⟨x,H1,I1,r1,q1⟩=> ?_;obtain⟨a,e,⟨xs,hq⟩,q⟩:=q1;subst e;cases r1;obtain⟨its,rv,p,hz⟩:=I1.tuple hq;refine wpAny_pyIter_tuple (show s1.heap.IsTuple a its.toArray from p) ?_;refine⟨s1.heap.objs.size,[s1.heap.objs.size],_,_,H1,rfl,I1.kept (t':=s1.toks) λb o e=>gZ _ e,QR a _,⟨_,get?_push_size _ rfl,rfl,rfl⟩,λb hb=> ?_,q⟩;have e:b=s1.heap.objs.size:=by simpa using hb
 subst e;exact I1.fpOk (Nat.le_refl _) (I1.hok.fresh (Nat.le_refl _))
theorem YU{pins:List (Addr×Obj)}{σ:St}{H:Hp}{s:Shared}{R:It->Hp->Prop}{E:Value->Shared->Prop}{lo hi:Int}{t u v:Tok}{tk:Nat}(I:Inv X pins σ H s)(h1: -(2^62)<=lo)(h2:lo<2^62)(h3: -(2^62)<=hi)(h4:hi<2^62)
  (q:R (Itr lo (hi - lo).toNat) H):wpAny (model X.prog X.w) X.A (pyIter (.ref s.heap.objs.size)) (PIE X pins σ tg R) E {s with heap:=s.heap.push {cls:=.type "range",data:=.fields #[.int lo t,.int hi u,.int 1 v]},toks:=tk}:=by
 refine wpAny_pyIter_range (IsRange.new ..) (small_one h1 h2 h3 h4) ?_;have I1:Inv X pins σ H {s with heap:=s.heap.push {cls:=.type "range",data:=.fields #[.int lo t,.int hi u,.int 1 v]},toks:=tk}:=I.kept λb o e=>gZ _ e;refine⟨(s.heap.push {cls:=.type "range",data:=.fields #[.int lo t,.int hi u,.int 1 v]}).objs.size,[(s.heap.push {cls:=.type "range",data:=.fields #[.int lo t,.int hi u,.int 1 v]}).objs.size],_,_,H,rfl,
  I1.kept (t':=tk) λb o e=>gZ _ e,OY _ lo (hi - lo).toNat, ?_,λb hb=> ?_,q⟩
 ·have e1:lo+((0:Nat):Int)*1=lo:=by simp
  have e2:(((hi - lo).toNat:Nat):Int) - ((0:Nat):Int)=Builtin.Range.rangeSize lo hi 1:=by rw[rangeSize_one];split<;>omega
  show IsRangeIter _ _ (lo+((0:Nat):Int)*1) ((((hi - lo).toNat:Nat):Int) - ((0:Nat):Int)) 1;rw[e1,e2];exact get?_push_size _ rfl
 ·have e:b=(s.heap.push {cls:=.type "range",data:=.fields #[.int lo t,.int hi u,.int 1 v]}).objs.size:=by simpa using hb
  subst e;exact I1.fpOk (Nat.le_refl _) (I1.hok.fresh (Nat.le_refl _))
noncomputable def coZ(ta:TA):TI:=fun σ H R=>ta σ H λvs H1=>∃j:Int,vs=[.int j]/\ -(2^62)<=j/\j<2^62/\R (Itr 0 j.toNat) H1
theorem O6{a:Expr}{ta:TA}{p pos:Pos}(hg:Gl X "range")(hm:X.mg "range"=none)(ha:PA X [a] ta)(hs:starEach [a] X.env=[(false,eval a X.env)]:=by rfl):PI X tg (.Call (.Name "range" p) [a] [] pos) (coZ ta):=by
 intro pins s σ H R I h;refine Call_ (Q0 I hg hm boot_range (callWith_type1 (thn (ha pos pins s σ H _ I h) λus s1 ⟨vs,H1,I1,r1,q1⟩=> ?_) hs rfl));obtain⟨j,e,q1,q2,q⟩:=q1;subst e;cases r1 with
 |cons r rr=>
  cases rr;obtain⟨t,rfl⟩:=r;exact call_range_1 (YU I1 (by omega) (by omega) q1 q2 (by simpa using q))
noncomputable def c3Z(wi:TI)(g:TG)(tb:TS):TS:=λD σ H=>wi σ H λJ H1=>∃W:Nat->Nat->St->Hp->Prop,(∃m,W 0 m σ H1)/\∀i m σ H,W i m σ H->
 (J.stop i H/\D.nx σ H)\/(J.go i H/\∃N:St->Hp->Prop,(∀σ' H',N σ' H'->∃m',m'<m/\W (i+1) m' σ' H')/\∀x H',J.yld i H x H'->g x σ H' fun σ2 H2=>tb {D with nx:=N,ct:=N,bk:=D.nx} σ2 H2)
noncomputable def DR(fp:List Addr)(h:Heap):List (Addr×Obj):=fp.filterMap λb=>(h.get? b).map λo=>(b,o)
theorem T7{fp:List Addr}{h:Heap}{b:Addr}{o:Obj}(hb:b∈fp)(e:h.get? b=some o):(b,o)∈DR fp h:=List.mem_filterMap.mpr ⟨b,hb,by rw[e];rfl⟩
theorem SX{fp:List Addr}{h:Heap}{p:Addr×Obj}(hp:p∈DR fp h):p.1∈fp/\h.get? p.1=some p.2:=by
 obtain⟨b,hb,e⟩:=List.mem_filterMap.mp hp;cases q:h.get? b with
 |none=>rw[q]at e;cases e
 |some o=>
  rw[q]at e;have e':(b,o)=p:=Option.some.inj e;subst e';exact⟨hb,q⟩
theorem Inv.pinned{pins:List (Addr×Obj)}{σ:St}{H:Hp}{s:Shared}{fp:List Addr}(I:Inv X pins σ H s)(hf:∀b∈fp,JD X pins H b)(ho:∀b∈fp,∃o,s.heap.get? b=some o/\∀v,o.data≠ .cell v):Inv X (pins++DR fp s.heap) σ H s:=
 I.pins_of λp hp=>(mem_append.mp hp).elim (λz=>I.pin p (mem_append_right _ z)) λz=>by
  obtain⟨hb,e⟩:=SX z;obtain⟨f0,f1,f2,_⟩:=hf p.1 hb;obtain⟨o,e',d⟩:=ho p.1 hb;rw[e]at e';cases e';exact⟨e,f0,f1,f2,d⟩
theorem Inv.unpinned{pins pl:List (Addr×Obj)}{σ:St}{H:Hp}{s:Shared}(I:Inv X (pins++pl) σ H s):Inv X pins σ H s:=I.pins_of λp hp=>I.pin p (mem_append_right _ (mem_append_left _ hp))
theorem FI{iter:Expr}{body:List Stmt}{wi:TI}{g:TG}{tb:TS}{pos:Pos}(hp:PassesOwn (model X.prog X.w) X.A X.env X.xe)(hc:X.calm=true)(hi:PI X tg iter wi)(hg:PG X tg g)(hb:PSs X body tb)
  (hs:∀x,foldedSetIterable iter X.env x=pure x:=by intro _;rfl):PS X (.For tg iter body [] pos) (c3Z wi g tb):=by
 intro pins s σ H D I h;refine wpAny_For (thn (hi pins s σ H _ I h) λv s1 h1=>thn h1 λitv s2 h2=> ?_) hs;obtain⟨it,fp,tn,J,H2,e,I2,T,st2,f2,W,⟨m0,w0⟩,turn⟩:=h2;subst e;have stat:∀ {H':Hp},(∀b∈fp,H' b=none)->∀b∈fp,JD X pins H' b:=λhn b hb=>⟨hn b hb,(f2 b hb).2⟩;refine codeAny_forLoop_any (λn s'=>∃i σ' H',Inv X pins σ' H' s'/\tn i s'.heap/\(∀b∈fp,H' b=none)/\W i n σ' H') ?_ m0 ⟨0,σ,H2,I2,st2,λb hb=>(f2 b hb).1,w0⟩;rintro n s3 ⟨i,σ3,H3,I3,st3,fr3,w3⟩;rcases turn i n σ3 H3 w3 with⟨stop,qn⟩|⟨go,N,hN,step⟩
 ·refine wpAny_passesOwn hp (thn (T.done X rfl rfl rfl hc i pins s3 σ3 H3 X.xe I3 (stat fr3) st3 stop) λr s4 ⟨hr,I4⟩=> ?_);subst hr;exact wpAny_execs_nil ⟨σ3,H3,I4,qn⟩
 ·refine wpAny_passesOwn hp (thn (T.item X rfl rfl rfl hc i pins s3 σ3 H3 X.xe I3 (stat fr3) st3 go) λr s4 ⟨u,hr,h4⟩=> ?_);subst hr;refine wpAny_passesOwn hp (thn h4 λ_ s5 ⟨x,H5,I5,r5,y5,st5,fr5⟩=> ?_);have I5':=I5.pinned (stat fr5) (T.obj _ _ st5);refine wpAny_passesOwn hp (thn (hg _ s5 σ3 H5 x u _ I5' r5 (step x H5 y5)) λ_ s6 ⟨σ6,H6,I6,q6⟩=> ?_);refine wpAny_passesOwn hp (thn (hb _ s6 σ6 H6 _ I6 q6) λf s7 q7=> ?_);have again:∀ {σ7:St} {H7:Hp},Inv X (pins++DR fp s5.heap) σ7 H7 s7->N σ7 H7->∃m,m<n/\∃i σ' H',Inv X pins σ' H' s7/\tn i s7.heap/\(∀b∈fp,H' b=none)/\W i m σ' H':=λ{σ7 H7} I7 n7=>by
   obtain⟨m',hm,w7⟩:=hN σ7 H7 n7;refine⟨m',hm,i+1,σ7,H7,I7.unpinned,T.keep _ _ _ st5 λb hb o e=>(I7.pin (b,o) (mem_append_right _ (mem_append_right _ (T7 hb e)))).1,λb hb=> ?_,w7⟩;obtain⟨o,e,d⟩:=T.obj _ _ st5 b hb;exact(I7.pin (b,o) (mem_append_right _ (mem_append_right _ (T7 hb e)))).2.1
  cases f with
  |next=>obtain⟨σ7,H7,I7,n7⟩:=q7;exact again I7 n7
  |cont=>obtain⟨σ7,H7,I7,n7⟩:=q7;exact again I7 n7
  |brk=>obtain⟨σ7,H7,I7,q7⟩:=q7;exact⟨σ7,H7,I7.unpinned,q7⟩
  |ret v=>obtain⟨x7,σ7,H7,I7,r7,q7⟩:=q7;exact⟨x7,σ7,H7,I7.unpinned,r7,q7⟩
end
theorem MJ{K:FZ}{a:Addr}{xs:List V}{g:TG}{tb:TS}{D:Ends}{σ:St}{H:Hp}(Pv:Nat->St->Hp->Prop)(h0:Pv 0 σ H)(hl:∀i σ H,i<=xs.length->Pv i σ H->SqL K H a xs)
  (hs:∀i x σ H,xs[i]? =some x->Pv i σ H->g x σ H fun σ2 H2=>tb {D with nx:=Pv (i+1),ct:=Pv (i+1),bk:=D.nx} σ2 H2)(hd:∀σ H,Pv xs.length σ H->D.nx σ H):
  ∃W:Nat->Nat->St->Hp->Prop,(∃m,W 0 m σ H)/\∀i m σ H,W i m σ H->
   ((Itl K a).stop i H/\D.nx σ H)\/((Itl K a).go i H/\∃N:St->Hp->Prop,(∀σ' H',N σ' H'->∃m',m'<m/\W (i+1) m' σ' H')/\∀x H',(Itl K a).yld i H x H'->g x σ H' fun σ2 H2=>tb {D with nx:=N,ct:=N,bk:=D.nx} σ2 H2):=by
 refine⟨λi m σ H=>m=xs.length - i/\i<=xs.length/\Pv i σ H,⟨xs.length,by simp,zero_le _,h0⟩, ?_⟩;rintro i m σ H ⟨rfl,hi,p⟩;have q:=hl i σ H hi p;by_cases hlt:i<xs.length
 ·refine .inr ⟨⟨xs,xs[i],q,by simp[hlt]⟩,Pv (i+1),fun σ' H' p'=>⟨xs.length - (i+1),by omega,rfl,hlt,p'⟩,λx H' y=> ?_⟩;obtain⟨e,y⟩:=y;subst e;exact hs i x σ _ (y xs q) p
 ·have e:i=xs.length:=by omega
  subst e;exact .inl ⟨⟨xs,q,Nat.le_refl _⟩,hd σ H p⟩
theorem JZ{lo:Int}{n:Nat}{g:TG}{tb:TS}{D:Ends}{σ:St}{H:Hp}(Pv:Nat->St->Hp->Prop)(h0:Pv 0 σ H)
  (hs:∀i σ H,i<n->Pv i σ H->g (.int (lo+i)) σ H fun σ2 H2=>tb {D with nx:=Pv (i+1),ct:=Pv (i+1),bk:=D.nx} σ2 H2)(hd:∀σ H,Pv n σ H->D.nx σ H):
  ∃W:Nat->Nat->St->Hp->Prop,(∃m,W 0 m σ H)/\∀i m σ H,W i m σ H->
   ((Itr lo n).stop i H/\D.nx σ H)\/((Itr lo n).go i H/\∃N:St->Hp->Prop,(∀σ' H',N σ' H'->∃m',m'<m/\W (i+1) m' σ' H')/\∀x H',(Itr lo n).yld i H x H'->g x σ H' fun σ2 H2=>tb {D with nx:=N,ct:=N,bk:=D.nx} σ2 H2):=by
 refine⟨λi m σ H=>m=n - i/\i<=n/\Pv i σ H,⟨n,by simp,zero_le _,h0⟩, ?_⟩;rintro i m σ H ⟨rfl,hi,p⟩;by_cases hlt:i<n
 ·refine .inr ⟨hlt,Pv (i+1),fun σ' H' p'=>⟨n - (i+1),by omega,rfl,hlt,p'⟩,λx H' y=> ?_⟩;obtain⟨e,y⟩:=y;subst e y;exact hs i σ _ hlt p
 ·have e:i=n:=by omega
  subst e;exact .inl ⟨Nat.le_refl _,hd σ H p⟩
noncomputable abbrev R2:=V->V->Hp->VK->Prop
noncomputable def OpR(X:Cx)(f:Value->Value->Sem Value)(r:R2):Prop:=
 ∀(pins:List (Addr×Obj)) (s:Shared) (σ:St) (H:Hp) (x y:V) (v u:Value) (Q:VK),Inv X pins σ H s->RelV x v->RelV y u->r x y H Q->
  wpAny (model X.prog X.w) X.A (f v u) (EP X pins σ Q) X.xe s
noncomputable def UnR(X:Cx)(f:Value->Sem Value)(r:V->Hp->VK->Prop):Prop:=
 ∀(pins:List (Addr×Obj)) (s:Shared) (σ:St) (H:Hp) (x:V) (v:Value) (Q:VK),Inv X pins σ H s->RelV x v->r x H Q->
  wpAny (model X.prog X.w) X.A (f v) (EP X pins σ Q) X.xe s
noncomputable def S7(X:Cx)(f:Value)(r:List V->Hp->VK->Prop):Prop:=
 ∀(pins:List (Addr×Obj)) (s:Shared) (σ:St) (H:Hp) (xs:List V) (us:List Value) (Q:VK),Inv X pins σ H s->Vals xs us->r xs H Q->
  wpAny (model X.prog X.w) X.A (call f us) (EP X pins σ Q) X.xe s
noncomputable def dkZ(X:Cx)(r:V->Hp->(Bool->Hp->Prop)->Prop):Prop:=
 ∀(pins:List (Addr×Obj)) (s:Shared) (σ:St) (H:Hp) (x:V) (v:Value) (Q:Bool->Hp->Prop),Inv X pins σ H s->RelV x v->r x H Q->
  wpAny (model X.prog X.w) X.A (truthy v) (TP X pins σ Q) X.xe s
noncomputable def tOp(r:R2)(ta tb:TE):TE:=fun σ H Q=>ta σ H λx H1=>tb σ H1 λy H2=>r x y H2 Q
noncomputable def tUn(r:V->Hp->VK->Prop)(ta:TE):TE:=fun σ H Q=>ta σ H λx H1=>r x H1 Q
inductive rI (C:Int->Int->Prop) (g:Int->Int->V) (x:V) (y:V) (H:Hp) (Q:VK):Prop
 |mk:∀i j,(x=.int i)->(y=.int j)->(C i j)->(Q (g i j) H)->rI C g x y H Q
inductive rI0 (g:Int->Int->V) (x:V) (y:V) (H:Hp) (Q:VK):Prop
 |mk:∀i j,(x=.int i)->(y=.int j)->(Q (g i j) H)->rI0 g x y H Q
inductive rU (g:Int->V) (x:V) (H:Hp) (Q:VK):Prop
 |mk:∀i,(x=.int i)->(Q (g i) H)->rU g x H Q
section
variable{X:Cx}{a b c:Expr}{ta tb tc:TE}{pos:Pos}
theorem bpZ(ha:PE X a ta)(hb:PE X b tb){pins:List (Addr×Obj)}{s:Shared}{σ:St}{H:Hp}{R:V->V->Hp->Prop}(I:Inv X pins σ H s)
  (h:ta σ H λx H1=>tb σ H1 λy H2=>R x y H2){Q:Value->Shared->Prop}{f:Value->Value->Sem Value}
  (hf:∀v u s2 x y H2,Inv X pins σ H2 s2->RelV x v->RelV y u->R x y H2->wpAny (model X.prog X.w) X.A (f v u) Q X.xe s2):
  wpAny (model X.prog X.w) X.A (eval a X.env) (λv s₁=>wpAny (model X.prog X.w) X.A (eval b X.env) (λu s₂=>wpAny (model X.prog X.w) X.A (f v u) Q X.xe s₂) X.xe s₁) X.xe s:=by
 refine thn (ha pins s σ H _ I h) λv s1 ⟨x,H1,I1,r1,q1⟩=> ?_;refine thn (hb pins s1 σ H1 _ I1 q1) λu s2 ⟨y,H2,I2,r2,q2⟩=> ?_;exact hf v u s2 x y H2 I2 r1 r2 q2
theorem B5{op:Operator}{r:R2}(ho:OpR X (binaryOp op) r)(ha:PE X a ta)(hb:PE X b tb):PE X (.BinOp a op b pos) (tOp r ta tb):=by
 intro pins s σ H Q I h;exact wpAny_BinOp (bpZ ha hb I h λv u s2 x y H2 I2 rx ry q=>ho pins s2 σ H2 x y v u Q I2 rx ry q)
theorem EY{op:UnaryOp}{r:V->Hp->VK->Prop}(ho:UnR X (unaryOp op) r)(ha:PE X a ta):PE X (.UnaryOp op a pos) (tUn r ta):=by
 intro pins s σ H Q I h;exact UnaryOp_ (thn (ha pins s σ H _ I h) λv s1 ⟨x,H1,I1,r1,q1⟩=>ho pins s1 σ H1 x v Q I1 r1 q1)
theorem opI{f:Value->Value->Sem Value}{C:Int->Int->Prop}{g:Int->Int->Int}
  (rule:∀(i j:Int) (t u:Tok) (s:Shared) (Q:Value->Shared->Prop) (E:Value->Shared->Prop),C i j->Q (.int (g i j) s.toks) {s with toks:=s.toks+1}->wpAny (model X.prog X.w) X.A (f (.int i t) (.int j u)) Q E s):
  OpR X f (rI C λi j=> .int (g i j)):=by
 intro pins s σ H x y v u Q I rx ry h;obtain⟨i,j,rfl,rfl,hc,q⟩:=h;obtain⟨t,rfl⟩:=rx;obtain⟨t',rfl⟩:=ry;exact rule i j t t' s _ _ hc ⟨.int (g i j),H,I.tok _,⟨_,rfl⟩,q⟩
theorem cjZ{f:Value->Value->Sem Value}{g:Int->Int->Int}
  (rule:∀(i j:Int) (t u:Tok) (s:Shared) (Q:Value->Shared->Prop) (E:Value->Shared->Prop),Q (.int (g i j) s.toks) {s with toks:=s.toks+1}->wpAny (model X.prog X.w) X.A (f (.int i t) (.int j u)) Q E s):
  OpR X f (rI0 λi j=> .int (g i j)):=by
 intro pins s σ H x y v u Q I rx ry h;obtain⟨i,j,rfl,rfl,q⟩:=h;obtain⟨t,rfl⟩:=rx;obtain⟨t',rfl⟩:=ry;exact rule i j t t' s _ _ ⟨.int (g i j),H,I.tok _,⟨_,rfl⟩,q⟩
theorem bVZ{f:Value->Value->Sem Value}{g:Int->Int->Bool}
  (rule:∀(i j:Int) (t u:Tok) (s:Shared) (Q:Value->Shared->Prop) (E:Value->Shared->Prop),Q (.bool (g i j)) s->wpAny (model X.prog X.w) X.A (f (.int i t) (.int j u)) Q E s):
  OpR X f (rI0 λi j=> .bl (g i j)):=by
 intro pins s σ H x y v u Q I rx ry h;obtain⟨i,j,rfl,rfl,q⟩:=h;obtain⟨t,rfl⟩:=rx;obtain⟨t',rfl⟩:=ry;exact rule i j t t' s _ _ ⟨.bl (g i j),H,I,rfl,q⟩
noncomputable def djZ(i j:Int):Prop:=0<=j/\j<=1000000/\i.natAbs<2^64
noncomputable def CMul(i j:Int):Prop:=(-(2^64)<i/\i<2^64)\/(-(2^64)<j/\j<2^64)
theorem CMul.ok{i j:Int}(h:CMul i j):IntMulOk i j:=by
 rcases h with⟨h1,h2⟩|⟨h1,h2⟩
 ·exact .of_left (intBits_le_64 h1 h2)
 ·exact .of_right (intBits_le_64 h1 h2)
theorem op_add:OpR X (binaryOp .Add) (rI0 λi j=> .int (i+j)):=cjZ λ_ _ _ _ _ _ _ q=>add_int q
theorem T4:OpR X (binaryOp .Sub) (rI0 λi j=> .int (i - j)):=cjZ λ_ _ _ _ _ _ _ q=>sub_int q
theorem op_mul:OpR X (binaryOp .Mult) (rI CMul λi j=> .int (i*j)):=opI λ_ _ _ _ _ _ _ hc q=>mul_int q hc.ok
theorem C3:OpR X (binaryOp .Mod) (rI (λ_ j=>0<j) λi j=> .int (i%j)):=opI λi j _ _ _ _ _ hc q=>by
 have h1:(0:Int)<j:=hc;exact mod_int' (by omega) (by rw[Int.fmod_eq_emod_of_nonneg i (by omega)];exact q)
theorem OL:OpR X (binaryOp .Pow) (rI djZ λi j=> .int (i^j.toNat)):=opI λ_ _ _ _ _ _ _ hc q=>pow_int_small hc.1 hc.2.1 hc.2.2 q
theorem unI{f:Value->Sem Value}{g:Int->Int}
  (rule:∀(i:Int) (t:Tok) (s:Shared) (Q:Value->Shared->Prop) (E:Value->Shared->Prop),Q (.int (g i) s.toks) {s with toks:=s.toks+1}->wpAny (model X.prog X.w) X.A (f (.int i t)) Q E s):
  UnR X f (rU λi=> .int (g i)):=by
 intro pins s σ H x v Q I rx h;obtain⟨i,rfl,q⟩:=h;obtain⟨t,rfl⟩:=rx;exact rule i t s _ _ ⟨.int (g i),H,I.tok _,⟨_,rfl⟩,q⟩
theorem AJ:UnR X (unaryOp .USub) (rU λi=> .int (-i)):=unI λ_ _ _ _ _ q=>neg_int q
end
noncomputable def cIZ:V->V->Bool
 | .non,.non=>true| .non,.int _=>true| .int _,.non=>true| .non,.bl _=>true| .bl _,.non=>true| .non,.str _=>true| .str _,.non=>true
 | .int _,.int _=>true| .bl _,.bl _=>true| .str _,.str _=>true| .byt _,.byt _=>true
 | .int _,.str _=>true| .str _,.int _=>true| .bl _,.str _=>true| .str _,.bl _=>true
 |_,_=>false
inductive rEq (x:V) (y:V) (H:Hp) (Q:VK):Prop
 |mk:(cIZ x y=true)->(Q (.bl (decide (x=y))) H)->rEq x y H Q
inductive rNe (x:V) (y:V) (H:Hp) (Q:VK):Prop
 |mk:(cIZ x y=true)->(Q (.bl (!decide (x=y))) H)->rNe x y H Q
theorem RY{i j:Int}:decide (V.int i=V.int j)=(i==j):=by
 rw[Bool.eq_iff_iff];simp
theorem XC{i j:Bool}:decide (V.bl i=V.bl j)=(i==j):=by
 rw[Bool.eq_iff_iff];simp
theorem QZ{i j:Str}:decide (V.str i=V.str j)=(i==j):=by
 rw[Bool.eq_iff_iff];simp
theorem RT{i j:Array UInt8}:decide (V.byt i=V.byt j)=(i.toList==j.toList):=by
 rw[Bool.eq_iff_iff];cases i;cases j;simp
section
variable{X:Cx}{a b c:Expr}{ta tb tc:TE}{pos:Pos}
theorem F8{pins:List (Addr×Obj)}{σ:St}{H:Hp}{s:Shared}{Q:VK}{k k':Bool}(I:Inv X pins σ H s)(q:Q (.bl k) H)(e:k=k'):EP X pins σ Q (.bool k') s:=by
 subst e;exact⟨.bl k,H,I,rfl,q⟩
theorem op_eq:OpR X (compareOp .Eq) rEq:=by
 intro pins s σ H x y v u Q I rx ry h;obtain⟨hs,q⟩:=h;cases x with
 |non=>
  cases rx;cases y with
  |non=>cases ry;exact PySem.EqNone.eq_none_none (F8 I q (by simp))
  |bl j=>cases ry;exact PySem.EqNone.eq_none_bool (F8 I q (by simp))
  |int j=>obtain⟨t',rfl⟩:=ry;exact PySem.EqNone.eq_none_int (F8 I q (by simp))
  |str j=>obtain⟨t',rfl⟩:=ry;exact PySem.EqNone.eq_none_str (F8 I q (by simp))
  |_=>exact absurd (show false=true from hs) nZ
 |bl i=>
  cases rx;cases y with
  |non=>cases ry;exact PySem.EqNone.eq_bool_none (F8 I q (by simp))
  |bl j=>cases ry;exact eq_bool (F8 I q XC)
  |str j=>obtain⟨t',rfl⟩:=ry;exact PySem.EqMixed.eq_bool_str (F8 I q (by simp))
  |_=>exact absurd (show false=true from hs) nZ
 |int i=>
  obtain⟨t,rfl⟩:=rx;cases y with
  |non=>cases ry;exact PySem.EqNone.eq_int_none (F8 I q (by simp))
  |int j=>obtain⟨t',rfl⟩:=ry;exact eq_int (F8 I q RY)
  |str j=>obtain⟨t',rfl⟩:=ry;exact PySem.EqMixed.eq_int_str (F8 I q (by simp))
  |_=>exact absurd (show false=true from hs) nZ
 |str i=>
  obtain⟨t,rfl⟩:=rx;cases y with
  |non=>cases ry;exact PySem.EqNone.eq_str_none (F8 I q (by simp))
  |bl j=>cases ry;exact PySem.EqMixed.eq_str_bool (F8 I q (by simp))
  |int j=>obtain⟨t',rfl⟩:=ry;exact PySem.EqMixed.eq_str_int (F8 I q (by simp))
  |str j=>obtain⟨t',rfl⟩:=ry;exact eq_str (F8 I q QZ)
  |_=>exact absurd (show false=true from hs) nZ
 |byt i=>
  obtain⟨t,rfl⟩:=rx;cases y with
  |byt j=>obtain⟨t',rfl⟩:=ry;exact PySem.W.eq_bytes (F8 I q RT)
  |_=>exact absurd (show false=true from hs) nZ
 |_=>cases y<;>exact absurd (show false=true from hs) nZ
theorem op_ne:OpR X (compareOp .NotEq) rNe:=by
 intro pins s σ H x y v u Q I rx ry h;obtain⟨hs,q⟩:=h;cases x with
 |non=>
  cases rx;cases y with
  |non=>cases ry;exact PySem.EqNone.ne_none_none (F8 I q (by simp))
  |bl j=>cases ry;exact PySem.EqNone.ne_none_bool (F8 I q (by simp))
  |int j=>obtain⟨t',rfl⟩:=ry;exact PySem.EqNone.ne_none_int (F8 I q (by simp))
  |str j=>obtain⟨t',rfl⟩:=ry;exact PySem.EqNone.ne_none_str (F8 I q (by simp))
  |_=>exact absurd (show false=true from hs) nZ
 |bl i=>
  cases rx;cases y with
  |non=>cases ry;exact PySem.EqNone.ne_bool_none (F8 I q (by simp))
  |bl j=>cases ry;exact ne_bool (F8 I q (congrArg not XC))
  |str j=>obtain⟨t',rfl⟩:=ry;exact PySem.EqMixed.ne_bool_str (F8 I q (by simp))
  |_=>exact absurd (show false=true from hs) nZ
 |int i=>
  obtain⟨t,rfl⟩:=rx;cases y with
  |non=>cases ry;exact PySem.EqNone.ne_int_none (F8 I q (by simp))
  |int j=>obtain⟨t',rfl⟩:=ry;exact ne_int (F8 I q (congrArg not RY))
  |str j=>obtain⟨t',rfl⟩:=ry;exact PySem.EqMixed.ne_int_str (F8 I q (by simp))
  |_=>exact absurd (show false=true from hs) nZ
 |str i=>
  obtain⟨t,rfl⟩:=rx;cases y with
  |non=>cases ry;exact PySem.EqNone.ne_str_none (F8 I q (by simp))
  |bl j=>cases ry;exact PySem.EqMixed.ne_str_bool (F8 I q (by simp))
  |int j=>obtain⟨t',rfl⟩:=ry;exact PySem.EqMixed.ne_str_int (F8 I q (by simp))
  |str j=>obtain⟨t',rfl⟩:=ry;exact ne_str (F8 I q (congrArg not QZ))
  |_=>exact absurd (show false=true from hs) nZ
 |byt i=>
  obtain⟨t,rfl⟩:=rx;cases y with
  |byt j=>obtain⟨t',rfl⟩:=ry;exact PySem.W.ne_bytes (F8 I q (congrArg not RT))
  |_=>exact absurd (show false=true from hs) nZ
 |_=>cases y<;>exact absurd (show false=true from hs) nZ
theorem GL:OpR X (compareOp .Lt) (rI0 λi j=> .bl (decide (i<j))):=bVZ λ_ _ _ _ _ _ _ q=>lt_int q
theorem BF:OpR X (compareOp .Gt) (rI0 λi j=> .bl (decide (j<i))):=bVZ λ_ _ _ _ _ _ _ q=>gt_int q
theorem RJ:OpR X (compareOp .GtE) (rI0 λi j=> .bl (decide (j<=i))):=bVZ λ_ _ _ _ _ _ _ q=>ge_int q
theorem op_in_str:OpR X (compareOp .In) (λx y H Q=>∃i j,x=.str i/\y=.str j/\Q (.bl (!(Builtin.Str.occurrences j i 0 j.length 1).isEmpty)) H):=by
 intro pins s σ H x y v u Q I rx ry h;obtain⟨i,j,rfl,rfl,q⟩:=h;obtain⟨t,rfl⟩:=rx;obtain⟨t',rfl⟩:=ry;exact in_str (F8 I q rfl)
theorem RC:OpR X (compareOp .IsNot) (λx y H Q=>y=.non/\Q (.bl (!decide (x=.non))) H):=by
 intro pins s σ H x y v u Q I rx ry h;obtain⟨rfl,q⟩:=h;cases ry;refine isnot_none_gen (F8 I q ?_);cases x<;>first
  |(cases rx;rfl)
  |(obtain⟨t,rfl⟩:=rx;rfl)
theorem OpR.or{f:Value->Value->Sem Value}{r r':R2}(h:OpR X f r)(h':OpR X f r'):OpR X f (λx y H Q=>r x y H Q\/r' x y H Q):=by
 intro pins s σ H x y v u Q I rx ry q;rcases q with q|q
 ·exact h pins s σ H x y v u Q I rx ry q
 ·exact h' pins s σ H x y v u Q I rx ry q
theorem N4{op:CmpOp}{r:R2}(ho:OpR X (compareOp op) r)(ha:PE X a ta)(hb:PE X b tb)(hm:behindInMarks op b=false):PE X (.Compare a [op] [b] pos) (tOp r ta tb):=by
 intro pins s σ H Q I h;exact wpAny_Compare1 (bpZ ha hb I h λv u s2 x y H2 I2 rx ry q=>ho pins s2 σ H2 x y v u Q I2 rx ry q) hm
inductive tTestW (Q:Bool->Hp->Prop) (x:V) (H':Hp):Prop
 |mk:∀k,(x=.bl k)->(Q k H')->tTestW Q x H'
noncomputable def aOZ(t:TE):TT:=fun σ H Q=>t σ H λx H'=>tTestW Q x H'
theorem B0{op:CmpOp}{r:R2}(ho:OpR X (compareOp op) r)(ha:PE X a ta)(hb:PE X b tb)(hm:behindInMarks op b=false):PT X (.Compare a [op] [b] pos) (aOZ (tOp r ta tb)):=by
 intro pins s σ H Q I h;refine wpAny_isTrue_Compare1 (thn (ha pins s σ H _ I h) λv s1 ⟨x,H1,I1,r1,q1⟩=>thn (hb pins s1 σ H1 _ I1 q1) λu s2 ⟨y,H2,I2,r2,q2⟩=>
  thn (ho pins s2 σ H2 x y v u _ I2 r1 r2 q2) λc s3 ⟨z,H3,I3,r3,k,e,q3⟩=> ?_) hm
 subst e;cases r3;exact wpAny_truthy_bool ⟨H3,I3,q3⟩
noncomputable def bZZ(r r':R2)(ta tb tc:TE):TE:=fun σ H Q=>ta σ H λx H1=>tb σ H1 λy H2=>r x y H2 λz H3=>∃k,z=.bl k/\
 (if k=true then tc σ H3 λw' H4=>r' y w' H4 Q else Q (.bl false) H3)
theorem NJ{op op':CmpOp}{r r':R2}(ho:OpR X (compareOp op) r)(ho':OpR X (compareOp op') r')(ha:PE X a ta)(hb:PE X b tb)(hc:PE X c tc)
  (hm:lastMarks [op,op'] [b,c]=false:=by with_unfolding_all rfl):PT X (.Compare a [op,op'] [b,c] pos) (aOZ (bZZ r r' ta tb tc)):=by
 intro pins s σ H Q I h;refine isTrue_chain (thn (ha pins s σ H _ I h) λv s1 ⟨x,H1,I1,r1,q1⟩=>test_link (thn (hb pins s1 σ H1 _ I1 q1) λu s2 ⟨y,H2,I2,r2,q2⟩=>
  thn (ho pins s2 σ H2 x y v u _ I2 r1 r2 q2) λd s3 ⟨z,H3,I3,r3,k,e,q3⟩=> ?_)) hm
 subst e;cases r3;refine wpAny_truthy_bool ?_;cases k with
 |false=>
  obtain⟨k',e',q'⟩:=q3;cases e';exact ite_ff ⟨H3,I3,q'⟩
 |true=>
  refine ite_tt (test_last (thn (hc pins s3 σ H3 _ I3 q3) λw' s4 ⟨z',H4,I4,r4,q4⟩=>thn (ho' pins s4 σ H4 y z' u w' _ I4 r2 r4 q4) λd' s5 ⟨z2,H5,I5,r5,k2,e2,q5⟩=> ?_));subst e2;cases r5;exact wpAny_truthy_bool ⟨H5,I5,q5⟩
noncomputable def byZ(K:FZ)(x:V)(H:Hp)(k:Bool):Prop:=
 match x with
 | .non=>k=false
 | .bl b=>k=b
 | .int i=>k=(i !=0)
 | .str y=>y.length<=sizeLine/\k=((y.length:Int) !=0)
 | .byt y=>y.size<=sizeLine/\k=((y.size:Int) !=0)
 | .ref p=>(∃xs,SqL K H p xs/\k= !xs.isEmpty)\/(∃xs,SqT K H p xs/\k= !xs.isEmpty)\/∃kvs,H p=some (.dK kvs)/\k= !kvs.isEmpty
 |_=>False
theorem OJ{κ:Type}{kvs:List (κ×V)}{vs:List (κ×Value)}(r:KV kvs vs):(!vs.isEmpty)= !kvs.isEmpty:=by
 cases r<;>rfl
theorem HQ{xs:List V}{its:List Value}(r:Vals xs its):(!its.toArray.isEmpty)= !xs.isEmpty:=by
 cases r<;>simp
theorem FN:(sizeLine:Nat)<2^63:=by rw[sizeLine_eq];decide
theorem a9Z:dkZ X (λx H Q=>∃k,byZ X.K x H k/\Q k H):=by
 intro pins s σ H x v Q I rx h;obtain⟨k,e,q⟩:=h;have hl:=FN;have hs:sizeLine=16777216:=sizeLine_eq;cases x with
 |non=>
  cases rx;have e':k=false:=e;subst e';exact truthy_none ⟨H,I,q⟩
 |bl b=>
  cases rx;have e':k=b:=e;subst e';exact wpAny_truthy_bool ⟨H,I,q⟩
 |int i=>
  obtain⟨t,rfl⟩:=rx;have e':k=(i !=0):=e;subst e';exact PySem.P.truthy_int ⟨H,I,q⟩
 |str y=>
  obtain⟨t,rfl⟩:=rx;obtain⟨hy,e'⟩:y.length<=sizeLine/\k=((y.length:Int) !=0):=e;subst e';exact PySem.P.truthy_str (by omega) ⟨H,I.tok _,q⟩
 |byt y=>
  obtain⟨t,rfl⟩:=rx;obtain⟨hy,e'⟩:y.size<=sizeLine/\k=((y.size:Int) !=0):=e;subst e';exact PySem.W.truthy_bytes (by omega) ⟨H,I.tok _,q⟩
 |ref p=>
  cases rx;have e':(∃xs,SqL X.K H p xs/\k= !xs.isEmpty)\/(∃xs,SqT X.K H p xs/\k= !xs.isEmpty)\/∃kvs,H p=some (.dK kvs)/\k= !kvs.isEmpty:=e;rcases e' with⟨xs,hx,e'⟩|⟨xs,hx,e'⟩|⟨kvs,hx,e'⟩
  ·subst e';obtain⟨its,r,pl,hz⟩:=I.list hx;have hlen:=r.length;exact wpAny_truthy_list pl.isList (by simp only[size_toArray];omega) ⟨H,I.tok _,by rw[HQ r];exact q⟩
  ·subst e';obtain⟨its,r,pl,hz⟩:=I.tuple hx;have hlen:=r.length;exact truthy_tuple pl (by simp only[size_toArray];omega) ⟨H,I.tok _,by rw[HQ r];exact q⟩
  ·subst e';obtain⟨hz,hS,vs,r,m⟩:kvs.length<=sizeLine/\(p==sysModules)=false/\∃vs,KV kvs vs/\s.heap.DictOf (J8 X.prog X.w) p vs:=I.hok p _ hx;have hlen:kvs.length=vs.length:=Paired.length r;exact wpAny_truthy_dict hS m (by omega) ⟨H,I.tok _,by rw[OJ r];exact q⟩
 |_=>exact(show False from e).elim
theorem VL(ha:PE X a ta)(he:∀whole,isTrue a X.env whole=(do let v<-whole;standAt a.pos;holding [v] (truthy v))):
  PT X a (fun σ H Q=>ta σ H λx H'=>∃k,byZ X.K x H' k/\Q k H'):=by
 intro pins s σ H Q I h;exact isTrue_plain (thn (ha pins s σ H _ I h) λv s1 ⟨x,H1,I1,r1,q1⟩=>a9Z pins s1 σ H1 x v Q I1 r1 q1) (he _)
theorem op_add_str:OpR X (binaryOp .Add) (λx y H Q=>∃i j,x=.str i/\y=.str j/\i.length+j.length<=sizeLine/\Q (.str (i++j)) H):=by
 intro pins s σ H x y v u Q I rx ry h;obtain⟨i,j,rfl,rfl,hz,q⟩:=h;obtain⟨t,rfl⟩:=rx;obtain⟨t',rfl⟩:=ry;exact add_str (λt' tk=>⟨.str (i++j),H,I.tok _,⟨_,rfl⟩,q⟩) hz
theorem BD{x:V}{us:List Value}(r:Vals [x] us):∃u,us=[u]/\RelV x u:=by
 cases r with
 |cons r1 r2=>cases r2;exact⟨_,rfl,r1⟩
theorem VH{x y:V}{us:List Value}(r:Vals [x,y] us):∃u w',us=[u,w']/\RelV x u/\RelV y w':=by
 cases r with
 |cons r1 r2=>
  cases r2 with
  |cons r3 r4=>cases r4;exact⟨_,_,rfl,r1,r3⟩
theorem MN:S7 X (.builtin "abs") (λxs H Q=>∃i,xs=[.int i]/\Q (.int (if i<0 then -i else i)) H):=by
 intro pins s σ H xs us Q I r h;obtain⟨i,rfl,q⟩:=h;obtain⟨u,rfl,t,rfl⟩:=BD r;exact call_abs_int λu tk=>⟨.int (if i<0 then -i else i),H,I.tok _,⟨_,rfl⟩,q⟩
theorem UI:S7 X (.type "int") (λxs H Q=>(∃i,xs=[.int i]/\Q (.int i) H)\/∃k,xs=[.bl k]/\Q (.int (if k then 1 else 0)) H):=by
 intro pins s σ H xs us Q I r h;rcases h with⟨i,rfl,q⟩|⟨k,rfl,q⟩
 ·obtain⟨u,rfl,t,rfl⟩:=BD r;exact call_int_int ⟨.int i,H,I,⟨_,rfl⟩,q⟩
 ·obtain⟨u,rfl,r1⟩:=BD r;cases r1;exact call_int_bool ⟨.int (if k then 1 else 0),H,I.tok _,⟨_,rfl⟩,q⟩
noncomputable def cwZ(K:FZ)(x:V)(H:Hp)(n:Nat):Prop:=
 match x with
 | .str y=>y.length<=sizeLine/\n=y.length
 | .byt y=>y.size<=sizeLine/\n=y.size
 | .ref p=>(∃xs,SqL K H p xs/\n=xs.length)\/∃xs,SqT K H p xs/\n=xs.length
 |_=>False
inductive rLen (K:FZ) (xs:List V) (H:Hp) (Q:VK):Prop
 |mk:∀x n,(xs=[x])->(cwZ K x H n)->(Q (.int n) H)->rLen K xs H Q
theorem YJ:S7 X (.builtin "len") (rLen X.K):=by
 intro pins s σ H xs us Q I r h;obtain⟨x,n,rfl,e,q⟩:=h;obtain⟨u,rfl,rx⟩:=BD r;have hl:=FN;have hs:sizeLine=16777216:=sizeLine_eq;cases x with
 |str y=>
  obtain⟨t,rfl⟩:=rx;obtain⟨hy,e'⟩:y.length<=sizeLine/\n=y.length:=e;subst e';exact len_str (by omega) ⟨.int _,H,I.tok _,⟨_,rfl⟩,q⟩
 |byt y=>
  obtain⟨t,rfl⟩:=rx;obtain⟨hy,e'⟩:y.size<=sizeLine/\n=y.size:=e;subst e';exact PySem.W.len_bytes (by omega) ⟨.int _,H,I.tok _,⟨_,rfl⟩,q⟩
 |ref p=>
  cases rx;have e':(∃xs,SqL X.K H p xs/\n=xs.length)\/∃xs,SqT X.K H p xs/\n=xs.length:=e;rcases e' with⟨xs,hx,e'⟩|⟨xs,hx,e'⟩
  ·subst e';obtain⟨its,r',pl,hz⟩:=I.list hx;have hlen:=r'.length;exact Calls.call_len_list pl.isList (by simp only[size_toArray];omega) ⟨.int xs.length,H,I.tok _,⟨_,by simp only[size_toArray];rw[hlen]⟩,q⟩
  ·subst e';obtain⟨its,r',pl,hz⟩:=I.tuple hx;have hlen:=r'.length;exact len_tuple pl (by simp only[size_toArray];omega) ⟨.int xs.length,H,I.tok _,⟨_,by simp only[size_toArray];rw[hlen]⟩,q⟩
 |_=>exact(show False from e).elim
end
structure ObjM (h:Heap) (x dx C:Addr) (mA:Str->Option Value):Prop where
 obj:h.get? x=some (PySem.W.instObj C dx)
 ns:h.Ns1 dx mA
 ne:dx≠x
theorem SV{h:Heap}{dx:Addr}{mA:Str->Option Value}(n:h.Ns1 dx mA):∃od,h.get? dx=some od/\∀name,lookIn name od=some (mA name):=by
 obtain⟨o,es,ep,ho,hd,hk,_,hm⟩:=n;refine⟨o,ho,λname=> ?_⟩;have e:=hm name;unfold nsFind findBy at e;rw[<-Array.find?_toList]at e;unfold lookIn;rw[hd]
 dsimp only
 split
 ·rename_i y q;rw[q]at e;exact congrArg some e
 ·rename_i q;rw[q]at e;have a:es.toList.any (·.refKey)=false:=by
   rw[List.any_eq_false];intro y hy;obtain⟨z,t,hkey⟩:=hk y (Array.mem_toList_iff.mp hy);simp[DictEntry.refKey,hkey]
  have a':¬es.toList.any (·.refKey)=true:=by rw[a];exact nZ
  rw[if_neg a'];exact congrArg some e
theorem ObjM.look{h:Heap}{x dx C:Addr}{mA:Str->Option Value}(I:ObjM h x dx C mA):∃od,PySem.W.InstAt h x (PySem.W.instObj C dx) C (some od)/\∀name,lookIn name od=some (mA name):=
 let⟨od,ho,hl⟩:=SV I.ns
 ⟨od,⟨I.obj,rfl,rfl,ho⟩,hl⟩
section
variable{prog:Program}{w:World}{A:Around}{E:Value->Shared->Prop}{s:Shared}{K:FZ}{x dx C f:Addr}{mA:Str->Option Value}{name:Str}{v:Value}
theorem VS{pl:Sem Bool}{Q:Value×List Value->Shared->Prop}(X:K.In s.heap)(I:ObjM s.heap x dx C mA)(hg:PySem.W.plainGet K C name=true)
  (hf:findIn K (.ref C) name=some (some (.ref f)))(ht:PySem.W.isFn K (.ref f)=true)(hv:mA name=none)(h:Q (.ref f,[.ref x]) s):
  wpAny (model prog w) A (getMethod (.ref x) name pl) Q E s:=by
 obtain⟨od,J,hl⟩:=I.look;exact PySem.W.method_fn X J (PySem.W.plainGet_of hg).1 (PySem.W.plainGet_of hg).2 hf (beq_iff_eq.mp ht) (by show(lookIn name od).map (·.isSome)=some false;rw[hl,hv];rfl) h
end
theorem RelO.some_of{v:V}{o:Option Value}(r:RelO (some v) o):∃u,o=some u/\RelV v u:=by
 cases o with
 |none=>exact(show False from r).elim
 |some u=>exact⟨u,rfl,r⟩
theorem RelO.none_of{o:Option Value}(r:RelO none o):o=none:=by
 cases o with
 |none=>rfl
 |some u=>exact(show False from r).elim
section
variable{P:Program}{w:World}{H H':Hp}{h h':Heap}{a C dx:Addr}{fs fs':List (Str×V)}
theorem LR(hok:HOk P w H h)(e:H a=some (.ins C dx fs)):∃mA,ObjM h a dx C mA/\(∀f,RelO (fs.lookup f) (mA f))/\PySem.Within mA (fs.map (·.1))/\fs.length<=1000/\H dx=some (.own a):=by
 obtain⟨d,z,ne,ob,mA,n,r,q⟩:=(show ObjOk P w H h a (.ins C dx fs)from hok a _ e);exact⟨mA,⟨ob,n,ne⟩,r,q,z,d⟩
end
structure Cls (K:FZ) (C:Addr):Prop where
 pg:PySem.W.plainGet K C Str.empty=true
 hd:PySem.W.hasDictIn K C=true
 po:PySem.W.plainOver K C=true
 sa:findIn K (.ref C) "__setattr__"=some (some (.builtin "object.__setattr__"))
theorem Cls.get{K:FZ}{C:Addr}(c:Cls K C)(f:Str):PySem.W.plainGet K C f=true:=c.pg
structure Meth (K:FZ) (C:Addr) (m:Str) (f:Addr):Prop where
 at_:findIn K (.ref C) m=some (some (.ref f))
 fn:PySem.W.isFn K (.ref f)=true
 kp:kZ K (.ref f)=true
section
variable{X:Cx}{pins:List (Addr×Obj)}{σ:St}{H:Hp}{s:Shared}{a C dx:Addr}{fs:List (Str×V)}{f:Str}{v:V}{A:Around}{E:Value->Shared->Prop}
theorem ID{m:Str}{g:Addr}{pl:Sem Bool}{Q:Value×List Value->Shared->Prop}(I:Inv X pins σ H s)(e:H a=some (.ins C dx fs))(c:Cls X.K C)(k:Meth X.K C m g)(l:fs.lookup m=none)
  (h:Q (.ref g,[.ref a]) s):wpAny (model X.prog X.w) A (getMethod (.ref a) m pl) Q E s:=by
 obtain⟨mA,O,r,_,_,_⟩:=LR I.hok e;have hn:mA m=none:=RelO.none_of (by rw[<-l];exact r m);exact VS I.kIn O (c.get m) k.at_ k.fn hn h
variable{o e value:Expr}{pos pos' tpos:Pos}{ta tv:TE}
variable{Q:Value->Shared->Prop}{c:Value}{b:Bool}
inductive TyOf(K:FZ)(H:Hp):V->Value->Prop where
 |non:TyOf K H .non (.type "NoneType")
 |bl (x:Bool):TyOf K H (.bl x) (.type "bool")
 |int (i:Int):TyOf K H (.int i) (.type "int")
 |str (x:Str):TyOf K H (.str x) (.type "str")
 |flt (x:UInt64):TyOf K H (.flt x) (.type "float")
 |lst {a:Addr} {xs:List V} (e:H a=some (.lst xs)):TyOf K H (.ref a) (.type "list")
 |frz {a:Addr} {o:Obj} {xs:List V} (e:H a=some (.frz o (.lst xs))):TyOf K H (.ref a) (.type "list")
 |tup {a:Addr} {xs:List V} (e:H a=some (.tup xs)):TyOf K H (.ref a) (.type "tuple")
 |dK {a:Addr} {kvs:List (Key×V)} (e:H a=some (.dK kvs)):TyOf K H (.ref a) (.type "dict")
 |dT {a:Addr} {kvs:List (List Key×V)} (e:H a=some (.dT kvs)):TyOf K H (.ref a) (.type "dict")
 |ins {a C dx:Addr} {fs:List (Str×V)} (e:H a=some (.ins C dx fs)) (cl:Cls K C) (ha:findIn K (.ref C) "__class__"=some (some (.builtin "object.__class__")))
   (hn:PySem.W.specialIn K (.builtin "object.__class__") "__get__"=some (some (.builtin "getset_descriptor.__get__"))) (htk:PySem.W.takesIn K (.builtin "object.__class__")=some true)
   (hm:PySem.W.mroIn K C (.type "object")=some true):TyOf K H (.ref a) (.ref C)
theorem UE{x:V}{u t:Value}(I:Inv X pins σ H s)(rx:RelV x u)(ty:TyOf X.K H x t)(e:kitOne X.K t c=some b)(h:∀tk,Q (.bool b) {s with toks:=tk}):
  wpAny (model X.prog X.w) A (call (.builtin "isinstance") [u,c]) Q E s:=by
 cases ty with
 |non=>cases(show u=Value.none from rx);exact kia_one PySem.W.kitx_none I.kIn True.intro e (λz=>nomatch z) h
 |bl y=>cases(show u=Value.bool y from rx);exact kia_one PySem.W.kitx_bool I.kIn True.intro e (λz=>nomatch z) h
 |int i=>obtain⟨t,q⟩:=(show∃t,u=Value.int i t from rx);cases q;exact kia_one PySem.W.kitx_int I.kIn True.intro e (λz=>nomatch z) h
 |str y=>obtain⟨t,q⟩:=(show∃t,u=Value.str y t from rx);cases q;exact kia_one PySem.W.kitx_str I.kIn True.intro e (λz=>nomatch z) h
 |flt y=>obtain⟨t,q⟩:=(show∃t,u=Value.float y t from rx);cases q;exact kia_one PySem.W.kitx_float I.kIn True.intro e (λz=>nomatch z) h
 | @lst a xs ea=>
  cases(show u=Value.ref a from rx);obtain⟨_,_,n,_,h1⟩:=(show ObjOk X.prog X.w H s.heap a (.lst xs)from I.hok a _ ea);exact kia_one kitx_list I.kIn ⟨_,h1,rfl⟩ e (λz=>nomatch z) h
 | @frz a ob xs ea=>
  cases(show u=Value.ref a from rx);obtain⟨_,_,_,n,_,h1⟩:=(show ObjOk X.prog X.w H s.heap a (.frz ob (.lst xs))from I.hok a _ ea);exact kia_one kitx_list I.kIn ⟨_,h1,rfl⟩ e (λz=>nomatch z) h
 | @tup a xs ea=>
  cases(show u=Value.ref a from rx);obtain⟨_,_,_,p⟩:=(show ObjOk X.prog X.w H s.heap a (.tup xs)from I.hok a _ ea);obtain⟨o,h1,h2,_⟩:=p;exact kia_one PySem.W.kitx_tuple I.kIn ⟨o,h1,h2⟩ e (λz=>nomatch z) h
 | @dK a kvs ea=>
  cases(show u=Value.ref a from rx);obtain⟨_,_,vs,_,p⟩:=(show ObjOk X.prog X.w H s.heap a (.dK kvs)from I.hok a _ ea);obtain⟨o,es,ep,h1,h2,_⟩:=p;exact kia_one kitx_dict I.kIn ⟨o,h1,h2.1⟩ e (λz=>nomatch z) h
 | @dT a kvs ea=>
  cases(show u=Value.ref a from rx);obtain⟨_,_,xs,_,o,es,ep,h1,h2,_⟩:=(show ObjOk X.prog X.w H s.heap a (.dT kvs)from I.hok a _ ea);exact kia_one kitx_dict I.kIn ⟨o,h1,h2.1⟩ e (λz=>nomatch z) h
 | @ins a C dx fs ea cl ha hn htk hm=>
  cases(show u=Value.ref a from rx);obtain⟨mA,O,_⟩:=LR I.hok ea;obtain⟨od,J,_⟩:=O.look;exact kia_one (PySem.W.kitx_own (cl.get _) cl.hd ha hn htk hm) I.kIn J e (λz=>nomatch z) h
end
structure Room (k:Nat) (A:Around):Prop where
 hd:A.handled=none
 dp:A.depth+3*k+5<recursionLimit
 un:A.units+16*k+200<cLine
theorem Room.mono{j k:Nat}{A:Around}(r:Room k A)(h:j<=k):Room j A:=⟨r.hd,by have:=r.dp;omega,by have:=r.un;omega⟩
theorem Room.deeper{k:Nat}{A:Around}(r:Room (k+1) A)(env:Env):Room k (A.deeper env):=
 ⟨r.hd,by have:=r.dp;show A.depth+1+3*k+5<_;omega,by have:=r.un;show A.units+3+16*k+200<_;omega⟩
theorem Room.depth{k:Nat}{A:Around}(r:Room k A):A.depth<recursionLimit:=by have:=r.dp;omega
theorem Room.units{k:Nat}{A:Around}(r:Room k A):A.units+64<cLine:=by have:=r.un;omega
theorem Room.units0{k:Nat}{A:Around}(r:Room k A):A.units<cLine:=by have:=r.un;omega
noncomputable def PB:TA:=λ_ H Q=>Q [] H
noncomputable def V8(ta:TE)(tr:TA):TA:=fun σ H Q=>ta σ H λx H1=>tr σ H1 λxs H2=>Q (x::xs) H2
section
variable{X:Cx}{e:Expr}{es:List Expr}{te:TE}{t:TA}{pos:Pos}
theorem A5:PA X [] PB:=λ_ _ _ _ H Q I h=>Calls.spliced_nil ⟨[],H,I,.nil,h⟩
theorem A0(ha:PE X e te)(hr:PA X es t)(hs:starEach (e::es) X.env=(false,eval e X.env)::starEach es X.env:=by rfl):PA X (e::es) (V8 te t):=by
 intro pos pins s σ H Q I h;rw[hs];show wpAny _ _ (spliced ((false,eval e X.env)::backTo pos (starEach es X.env))) _ _ s;refine Calls.spliced_cons (thn (ha pins s σ H _ I h) λu s1 ⟨x,H1,I1,r1,q1⟩=> ?_);exact thn (hr pos pins s1 σ H1 _ I1 q1) λus s2 ⟨xs,H2,I2,r2,q2⟩=>⟨x::xs,H2,I2,.cons r1 r2,q2⟩
inductive tTupW (Q:VK) (xs:List V) (H1:Hp):Prop
 |mk:(xs.length<=sizeLine)->(∀p,H1 p=none->Q (.ref p) (upd H1 p (.tup xs)))->tTupW Q xs H1
noncomputable def c4Z(t:TA):TE:=fun σ H Q=>t σ H λxs H1=>tTupW Q xs H1
inductive tLstW (Q:VK) (xs:List V) (H1:Hp):Prop
 |mk:(xs.length<=sizeLine)->(∀p,H1 p=none->Q (.ref p) (upd H1 p (.lst xs)))->tLstW Q xs H1
noncomputable def cZZ(t:TA):TE:=fun σ H Q=>t σ H λxs H1=>tLstW Q xs H1
theorem A8{x1}(h:PA X es t):PE X (.Tuple es x1 pos) (c4Z t):=by
 intro pins s σ H Q I hq;refine wpAny_Tuple_spliced (thn (h pos pins s σ H _ I hq) λus s1 ⟨xs,H1,I1,r,z,q⟩=>⟨by rw[<-r.length];exact z, ?_⟩);have hf:H1 s1.heap.objs.size=none:=I1.hok.fresh (Nat.le_refl _);refine⟨.ref s1.heap.objs.size,upd H1 s1.heap.objs.size (.tup xs),I1.laid (t':=s1.toks) (λb u e=>gZ _ e) (Nat.le_refl _) ?_,rfl,q _ hf⟩;exact⟨z,us,r,⟨_,get?_push_size _ rfl,rfl,_,rfl⟩⟩
theorem K1(h:PA X es t):PE X (.List es pos) (cZZ t):=by
 intro pins s σ H Q I hq;refine wpAny_List_spliced (thn (h pos pins s σ H _ I hq) λus s1 ⟨xs,H1,I1,r,z,q⟩=>⟨by rw[<-r.length];exact z, ?_⟩);have hf:H1 s1.heap.objs.size=none:=I1.hok.fresh (Nat.le_refl _);refine⟨.ref s1.heap.objs.size,upd H1 s1.heap.objs.size (.lst xs),I1.laid (t':=s1.toks) (λb u e=>gZ _ e) (Nat.le_refl _) ?_,rfl,q _ hf⟩;exact⟨z,us,0,r,get?_push_size _ rfl⟩
end
noncomputable abbrev Sp:=List V->Hp->VK->XK->Prop
noncomputable abbrev CXT:=List Env->Hp->Shared->XK->Value->Shared->Prop
structure Env0 (P:Program) (w:World) (K:FZ) (mg:Str->Option Value) (base:Heap) (A:Around) (outer:List Env) (s:Shared) (H:Hp):Prop where
 frames:A.frames=some outer
 mod:Mod K mg base
 bs:∀b o,base.get? b=some o->s.heap.get? b=some o/\H b=none
 bsz:base.objs.size<=s.heap.objs.size
 funs:s.heap.FunFrames base outer
 frf:∀b∈frs outer,H b=none
 hok:HOk P w H s.heap
 bare:AllBare s.gens
noncomputable def CE(outer:List Env)(P:Program)(w:World)(H:Hp)(s:Shared)(Q:VK)(u:Value)(s':Shared):Prop:=
 ∃v H',s'.os=s.os/\AllBare s'.gens/\Un (frs outer) [] H H' s.heap s'.heap/\HOk P w H' s'.heap/\RelV v u/\Q v H'
noncomputable def CR(CX:CXT)(outer:List Env)(P:Program)(w:World)(H:Hp)(s:Shared)(Q:VK)(E:XK)(r:Result)(s':Shared):Prop:=
 match r with
 | .ok (.ret u)=>CE outer P w H s Q u s'
 | .ok _=>False
 | .error e=>CX outer H s E e s'
structure FnOk (P:Program) (w:World) (K:FZ) (mg:Str->Option Value) (base:Heap) (CX:CXT) (k:Nat) (f:Addr) (fd:FuncData) (ps:List Str) (sp:Sp):Prop where
 len:∀vs H Q E,sp vs H Q E->vs.length=ps.length
 run:∀(A:Around) (outer:List Env) (s:Shared) (H:Hp) (args:Args) (us:List Value) (vs:List V) (Q:VK) (E:XK),Room k A->Env0 P w K mg base A outer s H->BindsTo s fd args (ps.zip us)->Vals vs us->sp vs H Q E->
  codeAny (model P w) A (.call (.ref f) args) (CR CX outer P w H s Q E) s
section
variable{X:Cx}{pins:List (Addr×Obj)}{σ:St}{H:Hp}{s s':Shared}
theorem Inv.env0(I:Inv X pins σ H s):Env0 X.prog X.w X.K X.mg X.base X.A X.stack s H:=
 ⟨I.ok.frames,I.ok.mod,I.bs,Nat.le_trans I.ok.bsz I.sz,I.stack,I.stkFree,I.hok,I.bare⟩
theorem Inv.after{Q:VK}{u:Value}(I:Inv X pins σ H s)(h:CE X.stack X.prog X.w H s Q u s'):EP X pins σ Q u s':=by
 obtain⟨v,H',os,bare,un,hok,r,q⟩:=h;obtain⟨hh,g,d,t,os'⟩:=s';obtain rfl:os'=s.os:=os;exact⟨v,H',I.call (h':=hh) (g':=g) (d':=d) (t':=t) (ch:=[]) un hok bare (λb z=>absurd z (by simp)),r,q⟩
end
noncomputable def XZ(sp:Sp)(dvs:List V)(E:XK)(t:TA):TE:=fun σ H Q=>t σ H λvs H1=>sp (vs++dvs) H1 Q E
inductive tMethW (C:Addr) (m:Str) (sp:Sp) (dvs:List V) (E:XK) (t:TA) (σ:St) (Q:VK) (x:V) (H1:Hp):Prop
 |mk:∀a dx fs,(x=.ref a)->(H1 a=some (.ins C dx fs))->(fs.lookup m=none)->(t σ H1 λvs H2=>sp (x::(vs++dvs)) H2 Q E)->tMethW C m sp dvs E t σ Q x H1
noncomputable def SF(C:Addr)(m:Str)(sp:Sp)(dvs:List V)(E:XK)(ta:TE)(t:TA):TE:=fun σ H Q=>ta σ H λx H1=>tMethW C m sp dvs E t σ Q x H1
noncomputable def Binds(K:FZ)(fd:FuncData)(ps:List Str)(ds:List Value):Prop:=
 ∀(s:Shared) (us:List Value),K.In s.heap->(us++ds).length=ps.length->BindsTo s fd ⟨us,[]⟩ (ps.zip (us++ds))
theorem Binds.all{K:FZ}{fd:FuncData}{ps:List Str}(h:∀us:List Value,us.length=ps.length->bindArgs fd ⟨us,[]⟩=pure (ps.zip us)):Binds K fd ps []:=λs us _ hl=>by
 rw[append_nil]at hl⊢;exact .of_eq (h us hl)
noncomputable def FK(CX:CXT)(X:Cx)(E:XK):Prop:=∀(pins:List (Addr×Obj)) (σ:St) (H:Hp) (s:Shared) (e:Value) (s':Shared),Inv X pins σ H s->CX X.stack H s E e s'->X.xe e s'
section
variable{X:Cx}{CX:CXT}{k:Nat}{f C:Addr}{fd:FuncData}{ps:List Str}{sp:Sp}{dvs:List V}{ds:List Value}{E:XK}{x m:Str}{p pos apos:Pos}{e o:Expr}{es:List Expr}{ta:TE}{t:TA}
theorem KZ{pins:List (Addr×Obj)}{σ:St}{H:Hp}{s:Shared}{Q:VK}{us:List Value}{vs:List V}(F:FnOk X.prog X.w X.K X.mg X.base CX k f fd ps sp)(hr:Room k X.A)(hb:Binds X.K fd ps ds)(hd:Vals dvs ds)(hx:FK CX X E)
  (I:Inv X pins σ H s)(r:Vals vs us)(h:sp (vs++dvs) H Q E):wpAny (model X.prog X.w) X.A (call (.ref f) us) (EP X pins σ Q) X.xe s:=by
 have r2:Vals (vs++dvs) (us++ds):=r.append hd;have hl:(us++ds).length=ps.length:=by rw[<-r2.length];exact F.len _ _ _ _ h
 refine wpAny_call (codeAny_mono (F.run X.A X.stack s H ⟨us,[]⟩ (us++ds) (vs++dvs) Q E hr I.env0 (hb s us I.kIn hl) r2 h) λr s' hq=> ?_);cases r with
 |error e=>exact hx pins σ H s e s' I hq
 |ok fl=>
  cases fl with
  |ret u=>exact I.after hq
  |next=>exact False.elim hq
  |brk=>exact False.elim hq
  |cont=>exact False.elim hq
theorem C8(F:FnOk X.prog X.w X.K X.mg X.base CX k f fd ps sp)(hr:Room k X.A)(hg:Gl X x)(hm:X.mg x=some (.ref f))(hk:kZ X.K (.ref f)=true)(hb:Binds X.K fd ps ds)(hd:Vals dvs ds)(hx:FK CX X E)
  (ha:PA X (e::es) t)(hdb:(x==("__debug__":Str))=false:=by decide)(he:starEach (e::es) X.env=(false,eval e X.env)::starEach es X.env:=by rfl)(hpl:(backTo pos (starEach es X.env)).any (·.1)=false:=by rfl):
  PE X (.Call (.Name x p) (e::es) [] pos) (XZ sp dvs E t):=by
 intro pins s σ H Q I h;refine wpAny_Call_Name_kw (SK I hg hm ?_ hdb);refine PySem.W.callWith_K (h₀:=X.base) I.ok.mod.kin hk (thn (ha pos pins s σ H _ I h) λus s1 ⟨vs,H1,I1,r,q⟩=>⟨I1.kIn, ?_⟩) he hpl;exact KZ F hr hb hd hx I1 r q
theorem ZM{pl:Sem Bool}(he:PE X o ta)(c:Cls X.K C)(hm:Meth X.K C m f)(F:FnOk X.prog X.w X.K X.mg X.base CX k f fd ps sp)(hr:Room k X.A)(hb:Binds X.K fd ps ds)(hd:Vals dvs ds)(hx:FK CX X E)(ha:PA X (e::es) t)
  (hst:starEach (e::es) X.env=(false,eval e X.env)::starEach es X.env:=by rfl)(hpl:(backTo pos (starEach es X.env)).any (·.1)=false:=by rfl)
  (ht:eval (.Call (.Attribute o m apos) (e::es) [] pos) X.env=(do
   let ov<-eval o X.env
   standAt apos.atName
   let(f,first)<-holding [ov] (getMethod ov m pl)
   callWith pos f first (backTo pos (starEach (e::es) X.env)) (backToKw pos (keywordEach [] X.env))):=by rfl):
  PE X (.Call (.Attribute o m apos) (e::es) [] pos) (SF C m sp dvs E ta t):=by
 intro pins s σ H Q I h;refine PySem.W.methodCall_KW (pl:=pl) (thn (he pins s σ H _ I h) λu s1 ⟨x,H1,I1,rx,a,dx,fs,ex,ea,l,q⟩=> ?_) ht;subst ex;obtain rfl:u=Value.ref a:=rx;refine ID I1 ea c hm l ?_;refine PySem.W.callWith_K (first:=[.ref a]) (h₀:=X.base) I.ok.mod.kin hm.kp (thn (ha pos pins s1 σ H1 _ I1 q) λus s2 ⟨vs,H2,I2,r,q2⟩=>⟨I2.kIn, ?_⟩) hst hpl;exact KZ (us:=.ref a::us) (vs:=.ref a::vs) F hr hb hd hx I2 (.cons rfl r) q2
theorem UT{pl:Sem Bool}(he:PE X o ta)(c:Cls X.K C)(hm:Meth X.K C m f)(F:FnOk X.prog X.w X.K X.mg X.base CX k f fd ps sp)(hr:Room k X.A)(hb:Binds X.K fd ps ds)(hd:Vals dvs ds)(hx:FK CX X E)
  (ht:eval (.Call (.Attribute o m apos) [] [] pos) X.env=(do
   let ov<-eval o X.env
   standAt apos.atName
   let(f,first)<-holding [ov] (getMethod ov m pl)
   callWith pos f first (backTo pos (starEach [] X.env)) (backToKw pos (keywordEach [] X.env))):=by rfl):
  PE X (.Call (.Attribute o m apos) [] [] pos) (SF C m sp dvs E ta PB):=by
 intro pins s σ H Q I h;refine PySem.W.methodCall_KW (pl:=pl) (thn (he pins s σ H _ I h) λu s1 ⟨x,H1,I1,rx,a,dx,fs,ex,ea,l,q⟩=> ?_) ht;subst ex;obtain rfl:u=Value.ref a:=rx;refine ID I1 ea c hm l ?_;exact PySem.W.callWith_K0 (first:=[.ref a]) I1.kIn hm.kp (KZ (us:=[.ref a]) (vs:=[.ref a]) F hr hb hd hx I1 (.cons rfl .nil) q)
structure Mk (K:FZ) (C f:Addr):Prop where
 makes:PySem.W.makesIn K C=true
 init:findIn K (.ref C) "__init__"=some (some (.ref f))
 fn:PySem.W.isFn K (.ref f)=true
 kp:kZ K (.ref C)=true
variable{ks:List Str}{kpos:Pos}{kws:List Keyword}{te:TE}{tk:TA}{nm:Option Str}
variable{g:List Value->List Value->List Value}{gV:List V->List V->List V}
end
structure FnScope(N P:List Str)(sc:Scope):Prop where
 kind:sc.kind=.function
 co:sc.isCoroutine=false
 gen:sc.isGenerator=false
 nd:N.Nodup
 pre:N.take P.length=P
 par:∀x∈P,sc.names.lookup x=some .local\/sc.names.lookup x=some .cell
 nofree:∀y∈sc.names,y.2≠ .free
theorem KL{kindOf:Str->Option NameKind}{x:Str}:∀ {binds:List (Str×Value)} {m:Str->Option Value},(∀v,(x,v)∉binds)->bindL kindOf binds m x=m x
 | [],_,_=>rfl
 |(n,v)::r,m,h=>by
  unfold bindL;rw[KL λw hw=>h w (mem_cons_of_mem _ hw)];split
  ·have:x≠n:=by rintro rfl;exact h v mem_cons_self
   simp[this]
  ·rfl
theorem KF{kindOf:Str->Option NameKind}{x:Str}:∀ {binds:List (Str×Value)} {m:Str->Option Value},(∀v,(x,v)∉binds)->bindC kindOf binds m x=m x
 | [],_,_=>rfl
 |(n,v)::r,m,h=>by
  unfold bindC;rw[KF λw hw=>h w (mem_cons_of_mem _ hw)];split
  ·rfl
  ·have:x≠n:=by rintro rfl;exact h v mem_cons_self
   simp[this]
theorem JM{kindOf:Str->Option NameKind}{x:Str}{v:Value}:∀ {P:List Str} {vs:List Value} {i:Nat} {m:Str->Option Value},P.Nodup->P[i]? =some x->vs[i]? =some v->kindOf x=some .local->
  bindL kindOf (P.zip vs) m x=some v
 | [],_,_,_,_,h,_,_=>by simp at h
 |_::_,[],_,_,_,_,h,_=>by simp at h
 |p::P,w::vs,0,m,nd,h1,h2,hk=>by
  simp at h1 h2;subst h1;subst h2;show bindL kindOf ((p,w)::P.zip vs) m p=_;unfold bindL;rw[KL λv hv=>(nodup_cons.mp nd).1 (List.of_mem_zip hv).1,if_pos hk];simp
 |p::P,w::vs,i+1,m,nd,h1,h2,hk=>by
  show bindL kindOf ((p,w)::P.zip vs) m x=_;unfold bindL;exact JM (i:=i) (nodup_cons.mp nd).2 (by simpa using h1) (by simpa using h2) hk
theorem JO{kindOf:Str->Option NameKind}{x:Str}{v:Value}:∀ {P:List Str} {vs:List Value} {i:Nat} {m:Str->Option Value},P.Nodup->P[i]? =some x->vs[i]? =some v->kindOf x≠some .local->
  bindC kindOf (P.zip vs) m x=some v
 | [],_,_,_,_,h,_,_=>by simp at h
 |_::_,[],_,_,_,_,h,_=>by simp at h
 |p::P,w::vs,0,m,nd,h1,h2,hk=>by
  simp at h1 h2;subst h1;subst h2;show bindC kindOf ((p,w)::P.zip vs) m p=_;unfold bindC;rw[KF λv hv=>(nodup_cons.mp nd).1 (List.of_mem_zip hv).1,if_neg hk];simp
 |p::P,w::vs,i+1,m,nd,h1,h2,hk=>by
  show bindC kindOf ((p,w)::P.zip vs) m x=_;unfold bindC;exact JO (i:=i) (nodup_cons.mp nd).2 (by simpa using h1) (by simpa using h2) hk
noncomputable def start(N:List Str)(vs:List V):St:=vs.map some++List.replicate (N.length - vs.length) none
noncomputable def OW(CX:CXT)(P:Program)(w:World)(K:FZ)(mg:Str->Option Value)(base:Heap)(N:List Str)(qual:Str)(scope:Scope)(f:Addr)(cd:Value)(A:Around)(outer:List Env)(s:Shared)(H:Hp)(E:XK):Cx where
 prog:=P
 w:=w
 K:=K
 mg:=mg
 base:=base
 A:=A.deeper (envOfC qual scope s.heap.objs.size f cd)
 N:=N
 s₀:=s
 H₀:=H
 env:=envOfC qual scope s.heap.objs.size f cd
 outer:=outer
 stack:=envOfC qual scope s.heap.objs.size f cd::outer
 ex:=[]
 calm:=true
 fn:=λ_=>true
 pn:=[]
 xe:=λe s'=>wpAny (model P w) (A.deeper (envOfC qual scope s.heap.objs.size f cd)) (leaving (envOfC qual scope s.heap.objs.size f cd) e) (λ_ s''=>CX outer H s E e s'') (λe' s''=>CX outer H s E e' s'') s'
theorem MX{sc:Scope}{n:Nat}{x:Str}(h:sc.names.lookup x=some .cell):∃c,(cellsFrom n sc.names []).lookup x=some c:=by
 have q:=PySem.W.cellsFrom_some sc.names n [] (.inl h);exact Option.isSome_iff_exists.mp q
theorem TN{CX:CXT}{P:Program}{w:World}{K:FZ}{mg:Str->Option Value}{base:Heap}{N ps:List Str}{qual:Str}{scope:Scope}{f:Addr}{cd:Value}{A:Around}{outer:List Env}{s s1:Shared}{H:Hp}{E:XK}{us:List Value}{vs:List V}
  (S:FnScope N ps scope)(hd:A.handled=none)(e0:Env0 P w K mg base A outer s H)(hl:vs.length=ps.length)(r:Vals vs us)
  (x:InCallC s s.heap.objs.size (bindL (envOfC qual scope s.heap.objs.size f cd).kindOf (ps.zip us) λ_=>none) (cellsFrom (s.heap.objs.size+1) scope.names []) (bindC (envOfC qual scope s.heap.objs.size f cd).kindOf (ps.zip us) λ_=>none) s1):
  Inv (OW CX P w K mg base N qual scope f cd A outer s H E) [] (start N vs) H s1:=by
 have hpl:ps.length<=N.length:=by have:=congrArg List.length S.pre;rw[length_take]at this;omega
 obtain⟨h1,tk,rfl,hk⟩:=x.done;have noA:∀b:Addr,b∉(OW CX P w K mg base N qual scope f cd A outer s H E).ex:=λb z=>absurd (show b∈([]:List Addr)from z) (by simp);refine⟨⟨e0.mod,S.kind,rfl,rfl,Nat.le_refl _,λy z c h1 h2=> ?_,λy hy=> ?_,λy c _ h=> ?_,λ_=>hd,Around.frames_deeper e0.frames,.inr ⟨rfl,rfl⟩,λb z=>absurd z (noA b),e0.bs,e0.bsz,λb _ _=>noA b,λb z=>absurd z (noA b),e0.funs,e0.frf⟩,
  rfl,e0.bare,Un.kept hk,⟨_,x.toInCall.ns,λi y v h1 h2 h3=> ?_⟩,λy c h=>⟨_,x.cell y c h⟩,e0.hok.fresh (Nat.le_refl _),λy c h=> ?_,λp hp=>absurd (show p∈([]:List (Addr×Obj))from hp) (by simp),e0.hok.kept hk, ?_⟩
 ·exact name_of_addr x.apart (PySem.mem_of_lookup h1) (PySem.mem_of_lookup h2)
 ·have hy:scope.names.lookup y=some .cell\/scope.names.lookup y=some .free:=hy;rcases hy with hy|hy
  ·exact MX hy
  ·exact absurd rfl (S.nofree _ (PySem.mem_of_lookup hy))
 ·exact Nat.le_of_lt (x.above y c (PySem.mem_of_lookup h))
 ·have hi:i<vs.length:=by
   unfold start at h2;by_cases hi:i<vs.length
   ·exact hi
   ·rw[List.getElem?_append_right (by simpa using hi)]at h2;rw[List.getElem?_replicate]at h2;split at h2<;>cases h2
  have ha:vs[i]? =some v:=by
   unfold start at h2;rw[List.getElem?_append_left (by simpa using hi),getElem?_map]at h2;cases e:vs[i]? with
   |none=>rw[e]at h2;cases h2
   |some a=>rw[e]at h2;cases h2;rfl
  obtain⟨u,hu,rv⟩:=r.get ha;have hp:ps[i]? =some y:=by
   rw[<-S.pre,List.getElem?_take_of_lt (by omega)];exact h1
  have ndP:ps.Nodup:=by rw[<-S.pre];exact S.nd.sublist (List.take_sublist _ _)
  refine⟨u,rv, ?_⟩;rcases S.par y (mem_of_getElem? hp)with k|k
  ·exact .inl ⟨k,JM ndP hp hu k⟩
  ·obtain⟨c,e⟩:=MX (n:=s.heap.objs.size+1) k;refine .inr ⟨.inl k,c,e, ?_⟩;have q:=x.cell y c e;rw[JO ndP hp hu (by show scope.names.lookup y≠_;rw[k];decide)]at q;exact q
 ·exact e0.hok.fresh (Nat.le_of_lt (x.above y c (PySem.mem_of_lookup h)))
 ·unfold start;show _=N.length;rw[length_append,length_map,length_replicate];omega
theorem crZ{CX:CXT}{P:Program}{w:World}{K:FZ}{mg:Str->Option Value}{base:Heap}{k:Nat}{f:Addr}{name qual:Str}{params:Arguments}{body:List Stmt}{scope:Scope}{dV kV doc pm cdv ct oc:Value}{an od:Option Addr}
  {osl:Array (Option Value)}{N ps:List Str}{sp:Sp}(lk:K.lookup f=some ⟨oc,od,.func (fnOf name qual params body scope dV kV doc pm an cdv ct),osl⟩)(hcd:codeIn K cdv qual=true)(S:FnScope N ps scope)
  (len:∀vs H Q E,sp vs H Q E->vs.length=ps.length)
  (hbody:∀(A:Around) (outer:List Env) (s:Shared) (H:Hp) (vs:List V) (Q:VK) (E:XK),Room k (A.deeper (envOfC qual scope s.heap.objs.size f cdv))->sp vs H Q E->
   ∃t,PSs (OW CX P w K mg base N qual scope f cdv A outer s H E) body t/\t {nx:=λ_ H'=>Q .non H',rt:=Q} (start N vs) H):
  FnOk P w K mg base CX (k+1) f (fnOf name qual params body scope dV kV doc pm an cdv ct) ps sp:=by
 refine⟨len,λA outer s H args us vs Q E hr e0 hb r hsp=> ?_⟩;have hl:=len _ _ _ _ hsp;have KX:K.In s.heap:=e0.mod.kin.keeps λb o e=>(e0.bs b o e).1;have lim:s.heap.NoLimit:=e0.mod.nolimit.keeps λb o e=>(e0.bs b o e).1;have hkind:∀y∈ps.zip us,scope.names.lookup y.1=some .local\/(scope.names.lookup y.1=some .cell/\((cellsFrom (s.heap.objs.size+1) scope.names []).lookup y.1).isSome=true):=λ⟨n,v⟩ hy=>by
  rcases S.par n (List.of_mem_zip hy).1 with q|q
  ·exact .inl q
  ·exact .inr ⟨q,PySem.W.cellsFrom_some _ _ _ (.inl q)⟩
 refine codeAny_call_function hr.depth (KX _ _ lk) rfl S.co S.gen rfl (PySem.W.codeRec_of KX hcd) (hb _ _ _ _ ?_);refine wpAny_newFunctionEnv_cells S.kind hkind λenv he s1 x=> ?_;subst he;refine⟨lim.keeps x.toInCall.keep,codeAny_func ?_⟩;obtain⟨t,ht,hq⟩:=hbody A outer s H vs Q E (hr.deeper _) hsp;have I:Inv (OW CX P w K mg base N qual scope f cdv A outer s H E) [] (start N vs) H s1:=TN S hr.hd e0 hl r x;refine wpAny_mono (ht [] s1 (start N vs) H _ I hq) (λfl s' hs=> ?_) λe s' hs=>hs;have fin:∀ {σ':St} {H':Hp} {v:V} {u:Value},Inv (OW CX P w K mg base N qual scope f cdv A outer s H E) [] σ' H' s'->RelV v u->Q v H'->CE outer P w H s Q u s':=
  λ{σ' H' v u} J rv q=>⟨v,H',J.os,J.bare,J.base,J.hok,rv,q⟩
 cases fl with
 |ret u=>
  obtain⟨v,σ',H',J,rv,q⟩:=hs;exact fin J rv q
 |next=>
  obtain⟨σ',H',J,q⟩:=hs;exact fin (v:=V.non) (u:=Value.none) J rfl q
 |brk=>
  obtain⟨_,_,_,q⟩:=hs;exact False.elim q
 |cont=>
  obtain⟨_,_,_,q⟩:=hs;exact False.elim q
section
variable{X:Cx}{x:Str}{p pos:Pos}{e:Expr}{es:List Expr}{t:TA}{id T:String}{r:List V->Hp->VK->Prop}
noncomputable def tCB(r:List V->Hp->VK->Prop)(t:TA):TE:=fun σ H Q=>t σ H λvs H1=>r vs H1 Q
theorem J7(hc:S7 X (.builtin id) r)(hg:Gl X x)(hm:X.mg x=none)(hv:bootBuiltins x=some (.builtin id))(ha:PA X (e::es) t)(hn:x≠ "__name__":=by decide)(hdb:(x==("__debug__":Str))=false:=by decide)
  (he:starEach (e::es) X.env=(false,eval e X.env)::starEach es X.env:=by rfl)(hpl:(backTo pos (starEach es X.env)).any (·.1)=false:=by rfl):PE X (.Call (.Name x p) (e::es) [] pos) (tCB r t):=by
 intro pins s σ H Q I h;refine wpAny_Call_Name_kw (Q0 I hg hm hv ?_ hn hdb);exact PyProof.Rows.callWith_builtin1 (thn (ha pos pins s σ H _ I h) λus s1 ⟨vs,H1,I1,r1,q1⟩=>hc pins s1 σ H1 vs us Q I1 r1 q1) he hpl
theorem F6(hc:S7 X (.type T) r)(hg:Gl X x)(hm:X.mg x=none)(hv:bootBuiltins x=some (.type T))(ha:PA X (e::es) t)(hn:x≠ "__name__":=by decide)(hdb:(x==("__debug__":Str))=false:=by decide)
  (he:starEach (e::es) X.env=(false,eval e X.env)::starEach es X.env:=by rfl)(hpl:(backTo pos (starEach es X.env)).any (·.1)=false:=by rfl):PE X (.Call (.Name x p) (e::es) [] pos) (tCB r t):=by
 intro pins s σ H Q I h;refine wpAny_Call_Name_kw (Q0 I hg hm hv ?_ hn hdb);exact callWith_type1 (thn (ha pos pins s σ H _ I h) λus s1 ⟨vs,H1,I1,r1,q1⟩=>hc pins s1 σ H1 vs us Q I1 r1 q1) he hpl
end
end _L
namespace HT
open PySem PyProof.Rows
section
open PySem.SeqAt
open PySem.AutoSeq1 (wpAny_loadPart')
open PySem.MeetsSeq PySem.MeetsSeq2 PySem.MeetsSeq3
end
section
variable{prog:Program}{w:World}{A:Around}{E:Value->Shared->Prop}{s:Shared}
theorem cat_tup{t b:Addr}{vs ws:List Value}{Q:Value->Shared->Prop}(ht:IsTup s.heap t vs.toArray)(hb:IsTup s.heap b ws.toArray)(hv:vs≠ [])
  (h1:ws=[]->Q (.ref t) s)(h2:ws≠ []->Q (.ref s.heap.objs.size) {s with heap:=s.heap.push {cls:=.type "tuple",data:=.seq (vs++ws).toArray}})
  (hsz:vs.length+ws.length<=sizeLine):wpAny (model prog w) A (binaryOp .Add (.ref t) (.ref b)) Q E s:=by
 obtain⟨⟨cls,dd,data,sl⟩,ho,hc,n,hd⟩:=id ht;obtain⟨⟨cls2,dd2,data2,sl2⟩,ho2,hc2,n2,hd2⟩:=id hb;simp only at hc hd hc2 hd2;subst hc hd hc2 hd2;have e:vs.toArray++ws.toArray=(vs++ws).toArray:=by simp
 by_cases hw:ws=[]
 ·exact concat_meets ⟨_,ho,rfl⟩ ⟨_,ho2,rfl⟩ noFill_tuple_add seq_tuple_add PySem.F.slot_tuple_add PySem.F.entry_tuple_add (PySem.F.args_tuple_add_2 _ _)
   (tuple_addW1 t b vs.toArray ws.toArray n n2 dd dd2 sl sl2 (by simpa using hv) (by simp[hw])) ⟨ho,ho2,h1 hw⟩
 ·refine concat_meets ⟨_,ho,rfl⟩ ⟨_,ho2,rfl⟩ noFill_tuple_add seq_tuple_add PySem.F.slot_tuple_add PySem.F.entry_tuple_add (PySem.F.args_tuple_add_2 _ _)
   (tuple_addW2 t b vs.toArray ws.toArray n n2 dd dd2 sl sl2 (by simpa using hv) (by simpa using hw) (by rw[size_toArray,size_toArray];exact hsz)) ⟨ho,ho2, ?_⟩
  rw[e];exact h2 hw
noncomputable def sIx(n d:Nat):Option Int->Nat
 |none=>d
 |some v=>if v<0 then(v+(n:Int)).toNat else min v.toNat n
theorem sIx_none(n d:Nat):sIx n d none=d:=rfl
theorem sIx_nat(n d k:Nat):sIx n d (some (k:Int))=min k n:=by
 show(if(k:Int)<0 then((k:Int)+(n:Int)).toNat else min (k:Int).toNat n)=min k n;rw[if_neg (by omega),Int.toNat_natCast]
theorem bRZ(n d:Nat)(hd:d<=n)(o:Option Int):sIx n d o<=n:=by
 cases o with
 |none=>exact hd
 |some v=>
  show(if v<0 then(v+(n:Int)).toNat else min v.toNat n)<=n;by_cases hv:v<0
  ·rw[if_pos hv];omega
  ·rw[if_neg hv];exact Nat.min_le_right _ _
theorem RI(v:Int)(n d:Nat):(if v<0 then max (v+(n:Int)) 0 else min v (n:Int))=((sIx n d (some v):Nat):Int):=by
 show(if v<0 then max (v+(n:Int)) 0 else min v (n:Int))=(((if v<0 then(v+(n:Int)).toNat else min v.toNat n):Nat):Int);by_cases hv:v<0
 ·simp only[if_pos hv];omega
 ·simp only[if_neg hv];omega
theorem ON(lo hi:Option Int)(n:Nat):Builtin.Slice.sliceAdjust lo hi 1 (n:Int)=(((sIx n 0 lo:Nat):Int),((sIx n n hi:Nat):Int)):=by
 have h1:¬((1:Int)<0):=by omega
 unfold Builtin.Slice.sliceAdjust;simp only[h1,if_false];refine Prod.ext ?_ ?_
 ·cases lo with
  |none=>rfl
  |some v=>exact RI v n 0
 ·cases hi with
  |none=>rfl
  |some v=>exact RI v n n
theorem PZ(i j:Nat):Builtin.Slice.slicePlaces (i:Int) (j:Int) 1=j - i:=by
 unfold Builtin.Slice.slicePlaces;have h1:(1:Int)>0:=by omega
 simp only[h1,if_true,Int.ediv_one];split<;>omega
theorem IA{v:Value}{o:Option Int}{Q:Option Int->Shared->Prop}(p:IsPart v o)(h:Q o s):wpAny (model prog w) A (Builtin.Slice.slicePartIndex v) Q E s:=by
 cases p with
 |none=>exact slicePart_none h
 |int i t=>exact slicePart_int h
theorem FF{sl:Addr}{vl vu:Value}{lo hi:Option Int}{n:Nat}{Q:Int×Int×Nat->Shared->Prop}(hs:s.heap.IsSliceOf sl vl vu .none)(pl:IsPart vl lo)(pu:IsPart vu hi)
  (h:Q (((sIx n 0 lo:Nat):Int),1,sIx n n hi - sIx n 0 lo) s):wpAny (model prog w) A (Builtin.Slice.sliceApplied (.ref sl) (pure (n:Int))) Q E s:=by
 obtain⟨os,hos,hcs,hds⟩:=id hs;unfold Builtin.Slice.sliceApplied Builtin.Slice.sliceFields;refine bZ (bZ (wpAny_field hos hds (x:=vl) rfl (bZ (wpAny_field hos hds (x:=vu) rfl (bZ (wpAny_field hos hds (x:=.none) rfl (pZ ?_)))))));refine bZ (slicePart_none ?_);show wpAny _ _ (if((1:Int)==0)=true then _ else _) _ _ s;rw[if_neg (by decide)];refine bZ (IA pl (bZ (IA pu (bZ (pZ ?_)))));show wpAny _ _ (match Builtin.Slice.sliceAdjust lo hi 1 (n:Int)with|(lo,hi)=>pure (lo,(1:Int),Builtin.Slice.slicePlaces lo hi 1)) _ _ s;rw[ON lo hi n];show wpAny _ _ (pure (((sIx n 0 lo:Nat):Int),(1:Int),Builtin.Slice.slicePlaces ((sIx n 0 lo:Nat):Int) ((sIx n n hi:Nat):Int) 1)) _ _ s;rw[PZ];exact pZ h
theorem YX(xs:Array Value)(i k:Nat):((List.range k).filterMap λ(m:Nat)=>xs[((i:Int)+(m:Int)*1).toNat]?).toArray=((xs.toList.drop i).take k).toArray:=by
 have e:(λ(m:Nat)=>xs[((i:Int)+(m:Int)*1).toNat]?)=λm=>xs[i+m]? :=by
  funext m
  have:((i:Int)+(m:Int)*1).toNat=i+m:=by omega
  rw[this]
 rw[e];have:=pick_run xs i k;rw[List.filterMap_map]at this;have e2:((λx=>xs[x]?)∘λx=>i+x)=λm=>xs[i+m]? :=rfl;rw[e2]at this;rw[this]
theorem getItem_tuple_cut{t sl:Addr}{items:Array Value}{vl vu:Value}{lo hi:Option Int}{Q:Value->Shared->Prop}(ht:IsTup s.heap t items)(hs:s.heap.IsSliceOf sl vl vu .none)(pl:IsPart vl lo)(pu:IsPart vu hi)
  (hw:¬(sIx items.size 0 lo=0/\sIx items.size items.size hi=items.size))
  (h:Q (.ref s.heap.objs.size) {s with heap:=s.heap.push {cls:=.type "tuple",data:=.seq ((items.toList.drop (sIx items.size 0 lo)).take (sIx items.size items.size hi - sIx items.size 0 lo)).toArray}})
  (hsz:items.size<=sizeLine):wpAny (model prog w) A (getItem (.ref t) (.ref sl)) Q E s:=by
 have htake:sizeOk (.seq ((items.toList.drop (sIx items.size 0 lo)).take (sIx items.size items.size hi - sIx items.size 0 lo)).toArray):=by
  show((items.toList.drop (sIx items.size 0 lo)).take (sIx items.size items.size hi - sIx items.size 0 lo)).toArray.size<=sizeLine;rw[size_toArray,length_take,length_drop,Array.length_toList];omega
 have hj:sIx items.size items.size hi<=items.size:=bRZ _ _ (Nat.le_refl _) hi;obtain⟨os,hos,hcs,hds⟩:=id hs;have hTs:s.TypeIs (.ref sl) "slice":=⟨os,hos,hcs⟩;unfold getItem
 try with_reducible refine wpAny_holding ?_
 first|refine bZ (pZ ?_)|skip
 refine bZ (wpAny_sequenceKey ht.typeIs (by decide) ?_);refine bZ (wpAny_callSpecial?_slot (name:=Str.ofString "__getitem__") ht.typeIs PyProof.Rows.slot_tuple_getitem
  (wpAny_call_entry PyProof.Rows.slot_tuple_getitem ht.typeIs entry_tuple_getitem ?_ (args_tuple_getitem _ _)))
 show wpAny _ _ (Builtin.Tuple.tupleItemsOf (.ref t)>>=_) _ _ s;refine bZ (tupleItemsOf_ ht ?_);refine bZ (wpAny_typeOf hTs ?_);rw[if_pos (by decide)];refine bZ (FF hs pl pu ?_);have hno:¬((((sIx items.size 0 lo:Nat):Int)==0&&(1:Int)==1&&(sIx items.size items.size hi - sIx items.size 0 lo)==items.size)=true):=by
  intro q;rw[Bool.and_eq_true,Bool.and_eq_true]at q;have q1:((sIx items.size 0 lo:Nat):Int)=0:=eq_of_beq q.1.1;have q2:sIx items.size items.size hi - sIx items.size 0 lo=items.size:=eq_of_beq q.2;exact hw ⟨by omega,by omega⟩
 show wpAny _ _ (if(((sIx items.size 0 lo:Nat):Int)==0&&(1:Int)==1&&(sIx items.size items.size hi - sIx items.size 0 lo)==items.size)=true then _ else _) _ _ s;rw[if_neg hno,YX]
 first
  |exact bZ (m:=Builtin.Tuple.tupleExact _) (wpAny_newObj_type (pZ ⟨_,rfl,pZ h⟩) htake)
  |exact bZ (m:=Builtin.Tuple.tupleExact _) (wpAny_newObj_type (bZ (pZ (pZ ⟨_,rfl,pZ h⟩))) htake)
  |exact bZ (bZ (m:=Builtin.Tuple.tupleExact _) (wpAny_newObj_type (pZ (pZ ⟨_,rfl,pZ h⟩)) htake))
  |exact bZ (bZ (m:=Builtin.Tuple.tupleExact _) (wpAny_newObj_type (pZ ⟨_,rfl,pZ h⟩) htake))
end
end HT
namespace _L
open PySem PySem.Spec PyProof.Rows
noncomputable abbrev TO:=St->Hp->(Option Int->Hp->Prop)->Prop
noncomputable def PO(X:Cx)(e:Option Expr)(t:TO):Prop:=
 ∀(pins:List (Addr×Obj)) (s:Shared) (σ:St) (H:Hp) (Q:Option Int->Hp->Prop),Inv X pins σ H s->t σ H Q->
  wpAny (model X.prog X.w) X.A (evalPart e X.env) (λu s'=>∃o H',Inv X pins σ H' s'/\IsPart u o/\Q o H') X.xe s
noncomputable def RN:TO:=λ_ H Q=>Q none H
noncomputable def ayZ(t:TE):TO:=fun σ H Q=>t σ H λx H1=>∃i,x=.int i/\Q (some i) H1
section
variable{X:Cx}{e:Expr}{te:TE}{lo hi:Option Expr}{tl th:TO}{pos p2:Pos}
theorem C9:PO X none RN:=by
 intro pins s σ H Q I h;rw[evalPart_none];exact pZ ⟨none,H,I,.none,h⟩
theorem C6(h:PE X e te):PO X (some e) (ayZ te):=by
 intro pins s σ H Q I hw;rw[evalPart_some];refine thn (h pins s σ H _ I hw) λu s1 ⟨x,H1,I1,r1,q1⟩=> ?_;obtain⟨i,rfl,q⟩:=q1;obtain⟨t,rfl⟩:=r1;exact⟨some i,H1,I1,.int i t,q⟩
noncomputable def SlR(X:Cx)(r:V->Option Int->Option Int->Hp->VK->Prop):Prop:=
 ∀(pins:List (Addr×Obj)) (s:Shared) (σ:St) (H:Hp) (x:V) (v vl vu:Value) (lo hi:Option Int) (sl:Addr) (Q:VK),Inv X pins σ H s->RelV x v->s.heap.IsSliceOf sl vl vu .none->IsPart vl lo->IsPart vu hi->r x lo hi H Q->
  ∃T id,typeLookup (.type T) "__getitem__"=pure (some (.builtin id))/\s.TypeIs v T/\wpAny (model X.prog X.w) X.A (getItem v (.ref sl)) (EP X pins σ Q) X.xe s
theorem SlR.or{r r':V->Option Int->Option Int->Hp->VK->Prop}(h:SlR X r)(h':SlR X r'):SlR X (λx lo hi H Q=>r x lo hi H Q\/r' x lo hi H Q):=by
 intro pins s σ H x v vl vu lo hi sl Q I rx hs pl pu q;rcases q with q|q
 ·exact h pins s σ H x v vl vu lo hi sl Q I rx hs pl pu q
 ·exact h' pins s σ H x v vl vu lo hi sl Q I rx hs pl pu q
noncomputable def tSl(r:V->Option Int->Option Int->Hp->VK->Prop)(te:TE)(tl th:TO):TE:=fun σ H Q=>te σ H λx H1=>tl σ H1 λl H2=>th σ H2 λu H3=>r x l u H3 Q
theorem C2{r:V->Option Int->Option Int->Hp->VK->Prop}(hr:SlR X r)(he:PE X e te)(hl:PO X lo tl)(hu:PO X hi th):PE X (.Subscript e (.Slice lo hi none p2) pos) (tSl r te tl th):=by
 intro pins s σ H Q I h;refine Subscript_ (thn (he pins s σ H _ I h) λv s1 ⟨x,H1,I1,r1,q1⟩=> ?_);refine wpAny_Slice (thn (hl pins s1 σ H1 _ I1 q1) λvl s2 ⟨l,H2,I2,pl,q2⟩=>thn (hu pins s2 σ H2 _ I2 q2) λvu s3 ⟨u,H3,I3,pu,q3⟩=> ?_);rw[evalPart_none];refine pZ ?_;have I4:Inv X pins σ H3 {s3 with heap:=s3.heap.push {cls:=.type "slice",data:=.fields #[vl,vu,.none]}}:=I3.kept (t':=s3.toks) λb ob q=>gZ _ q;obtain⟨T,id,hT,ht,hg⟩:=hr pins {s3 with heap:=s3.heap.push {cls:=.type "slice",data:=.fields #[vl,vu,.none]}} σ H3 x v vl vu l u s3.heap.objs.size Q I4 r1 (Heap.IsSliceOf.new ..) pl pu q3;show wpAny (model X.prog X.w) X.A (subscriptTail e (.Slice lo hi none p2) v (.ref s3.heap.objs.size)) (EP X pins σ Q) X.xe {s3 with heap:=s3.heap.push {cls:=.type "slice",data:=.fields #[vl,vu,.none]}};exact tail_any (ops:=[.ref s3.heap.objs.size,v]) ht hT hg (by with_unfolding_all rfl)
noncomputable def P3(xs:List V)(lo hi:Option Int):List V:=(xs.drop (HT.sIx xs.length 0 lo)).take (HT.sIx xs.length xs.length hi - HT.sIx xs.length 0 lo)
theorem GF(xs:List V)(lo hi:Option Int):(P3 xs lo hi).length<=xs.length:=by
 unfold P3;rw[length_take,length_drop];omega
inductive rSlT (K:FZ) (x:V) (lo:Option Int) (hi:Option Int) (H:Hp) (Q:VK):Prop
 |mk:∀a xs,(x=.ref a)->(SqT K H a xs)->(¬(HT.sIx xs.length 0 lo=0/\HT.sIx xs.length xs.length hi=xs.length))->(∀p,H p=none->Q (.ref p) (upd H p (.tup (P3 xs lo hi))))->rSlT K x lo hi H Q
theorem biZ:SlR X (rSlT X.K):=by
 intro pins s σ H x v vl vu lo hi sl Q I rx hs pl pu h;obtain⟨a,xs,rfl,hx,hw,q⟩:=h;cases rx;obtain⟨its,r,ht,hz⟩:=I.tuple hx;have hlen:its.toArray.size=xs.length:=by rw[size_toArray];exact r.length.symm
 refine⟨"tuple",_,PyProof.Rows.slot_tuple_getitem.lookup,ht.typeIs, ?_⟩;refine HT.getItem_tuple_cut ht hs pl pu (by rw[hlen];exact hw) ?_ (by rw[hlen];exact hz);rw[hlen];refine⟨.ref s.heap.objs.size,_,I.laid (t':=s.toks) (o:=.tup (P3 xs lo hi)) (λb ob q=>gZ _ q) (Nat.le_refl _) ?_,rfl,q _ (I.hok.fresh (Nat.le_refl _))⟩;exact⟨Nat.le_trans (GF xs lo hi) hz,_,(r.drop (HT.sIx xs.length 0 lo)).take (HT.sIx xs.length xs.length hi - HT.sIx xs.length 0 lo),IsTup.new _ _⟩
noncomputable def GN(K:FZ):R2:=λx y H Q=>∃a b xs ys,x=.ref a/\y=.ref b/\SqT K H a xs/\SqT K H b ys/\xs≠ []/\xs.length+ys.length<=sizeLine/\
 (ys=[]->Q (.ref a) H)/\(ys≠ []->∀p,H p=none->Q (.ref p) (upd H p (.tup (xs++ys))))
theorem Vals.nil_iff{xs:List V}{us:List Value}(r:Vals xs us):us=[]↔xs=[]:=by
 cases r with
 |nil=>simp
 |cons _ _=>simp
theorem op_catT:OpR X (binaryOp .Add) (GN X.K):=by
 intro pins s σ H x y v u Q I rx ry h;obtain⟨a,b,xs,ys,rfl,rfl,ha,hb,hx,hz,q1,q2⟩:=h;cases rx;cases ry;obtain⟨its,r1,p1,_⟩:=I.tuple ha;obtain⟨its2,r2,p2,_⟩:=I.tuple hb;refine HT.cat_tup p1 p2 (λz=>hx (r1.nil_iff.mp z)) (λz=>⟨.ref a,H,I,rfl,q1 (r2.nil_iff.mp z)⟩) (λz=> ?_) (by rw[<-r1.length,<-r2.length];exact hz);refine⟨.ref s.heap.objs.size,_,I.laid (t':=s.toks) (o:=.tup (xs++ys)) (λb ob q=>gZ _ q) (Nat.le_refl _) ?_,rfl,q2 (λw=>z (r2.nil_iff.mpr w)) _ (I.hok.fresh (Nat.le_refl _))⟩;exact⟨by rw[length_append];exact hz,_,r1.append r2,IsTup.new _ _⟩
end
noncomputable def ixN(n:Nat)(i:Int):Option Nat:=if 0<=i then(if i<n then some i.toNat else none)else if -(n:Int)<=i then some (i+n).toNat else none
noncomputable def atI{α:Type}(xs:List α)(i:Int):Option α:=(ixN xs.length i).bind λj=>xs[j]?
theorem RV{n:Nat}{i:Int}{j:Nat}(h:ixN n i=some j):seqIndex? i n=some j/\j<n/\ -(n:Int)<=i/\i<n:=by
 unfold ixN at h;by_cases h0:0<=i
 ·rw[if_pos h0]at h;by_cases h1:i<n
  ·rw[if_pos h1]at h;have e:i.toNat=j:=Option.some.inj h;exact⟨by rw[seqIndex_of h0 h1,e],by omega,by omega,h1⟩
  ·rw[if_neg h1]at h;cases h
 ·rw[if_neg h0]at h;by_cases h1: -(n:Int)<=i
  ·rw[if_pos h1]at h;have e:(i+n).toNat=j:=Option.some.inj h;exact⟨by rw[seqIndex_neg (by omega) h1,e],by omega,h1,by omega⟩
  ·rw[if_neg h1]at h;cases h
theorem LZ{α:Type}{xs:List α}{i:Int}{v:α}(h:atI xs i=some v):∃j,seqIndex? i xs.length=some j/\xs[j]? =some v/\j<xs.length/\ -(xs.length:Int)<=i/\i<xs.length:=by
 unfold atI at h;cases e:ixN xs.length i with
 |none=>rw[e]at h;cases h
 |some j=>
  rw[e]at h;obtain⟨h1,h2,h3,h4⟩:=RV e;exact⟨j,h1,h,h2,h3,h4⟩
theorem D5{α:Type}{xs:List α}{j:Nat}{v:α}(h:xs[j]? =some v):atI xs (j:Int)=some v:=by
 have hj:j<xs.length:=(List.getElem?_eq_some_iff.mp h).1;have e:ixN xs.length (j:Int)=some j:=by
  unfold ixN;rw[if_pos (by omega),if_pos (by omega)];simp
 unfold atI;rw[e];exact h
theorem BY{α:Type}(xs:List α)(v:α):atI (xs++ [v]) (-1)=some v:=by
 have hl:(xs++ [v]).length=xs.length+1:=by simp
 have e:ixN (xs++ [v]).length (-1)=some xs.length:=by
  unfold ixN;rw[hl,if_neg (by decide),if_pos (by omega)];congr 1;omega
 unfold atI;rw[e];show(xs++ [v])[xs.length]? =some v;simp
noncomputable def RL(b:Expr):Prop:=∀o i,subscripted b false o i=operate [o,i] (getItem o i)
noncomputable def IxR(X:Cx)(r:R2):Prop:=
 ∀(value slice:Expr) (pins:List (Addr×Obj)) (s:Shared) (σ:St) (H:Hp) (x y:V) (v u:Value) (Q:VK),Inv X pins σ H s->RelV x v->RelV y u->r x y H Q->
  subscripted slice false v u=operate [v,u] (getItem v u)->wpAny (model X.prog X.w) X.A (subscriptTail value slice v u) (EP X pins σ Q) X.xe s
noncomputable def MtR(X:Cx)(id:String)(r:V->List V->Hp->VK->Prop):Prop:=
 ∀(pins:List (Addr×Obj)) (s:Shared) (σ:St) (H:Hp) (x:V) (xs:List V) (v:Value) (us:List Value) (Q:VK),Inv X pins σ H s->RelV x v->Vals xs us->r x xs H Q->
  wpAny (model X.prog X.w) X.A (call (.builtin id) (v::us)) (EP X pins σ Q) X.xe s
section
variable{X:Cx}{a b:Expr}{ta tb:TE}{pos:Pos}
theorem IxR.or{r r':R2}(h:IxR X r)(h':IxR X r'):IxR X (λx y H Q=>r x y H Q\/r' x y H Q):=by
 intro value slice pins s σ H x y v u Q I rx ry q hs;rcases q with q|q
 ·exact h value slice pins s σ H x y v u Q I rx ry q hs
 ·exact h' value slice pins s σ H x y v u Q I rx ry q hs
theorem GM{r:R2}(hr:IxR X r)(ha:PE X a ta)(hb:PE X b tb)(hs:RL b):PE X (.Subscript a b pos) (tOp r ta tb):=by
 intro pins s σ H Q I h;exact Subscript_ (bpZ ha hb I h λv u s2 x y H2 I2 rx ry q=>hr a b pins s2 σ H2 x y v u Q I2 rx ry q (hs _ _))
inductive rIxL (K:FZ) (x:V) (y:V) (H:Hp) (Q:VK):Prop
 |mk:∀p xs i v,(x=.ref p)->(y=.int i)->(SqL K H p xs)->(atI xs i=some v)->(Q v H)->rIxL K x y H Q
inductive rIxT (K:FZ) (x:V) (y:V) (H:Hp) (Q:VK):Prop
 |mk:∀p xs i v,(x=.ref p)->(y=.int i)->(SqT K H p xs)->(atI xs i=some v)->(Q v H)->rIxT K x y H Q
inductive rIxS (x:V) (y:V) (H:Hp) (Q:VK):Prop
 |mk:∀z i c,(x=.str z)->(y=.int i)->(z.length<=sizeLine)->(atI z.cps.toList i=some c)->(Q (.str ⟨#[c]⟩) H)->rIxS x y H Q
theorem ix_list:IxR X (rIxL X.K):=by
 intro value slice pins s σ H x y v u Q I rx ry h hs;obtain⟨p,xs,i,z,rfl,rfl,hq,he,q⟩:=h;cases rx;obtain⟨t,rfl⟩:=ry;obtain⟨its,r,pl,hz⟩:=I.list hq;obtain⟨j,h1,h2,h3,h4,h5⟩:=LZ he;obtain⟨w,ew,rw'⟩:=r.get h2;have hl:=r.length;have hn:=FN;have fin:EP X pins σ Q w s:=⟨z,H,I,rw',q⟩;by_cases h0:0<=i
 ·have hj:i.toNat=j:=by
   rw[seqIndex_of h0 h5]at h1;exact Option.some.inj h1
  exact item_listR pl.isList h0 (by omega) (by rw[hj];simpa using ew) fin hs
 ·have hj:(i+(its.toArray.size:Int)).toNat=j:=by
   rw[seqIndex_neg (by omega) h4]at h1;rw[size_toArray,<-hl];exact Option.some.inj h1
  exact subscriptTail_builtinR (x:=w) pl.isList.typeIs slot_list_getitem.lookup
   (wpAny_getItem_list_neg (Q:=λr s'=>r=w/\EP X pins σ Q r s') pl.isList (by omega) (by rw[size_toArray]<;>omega) (by omega) (by rw[hj];simpa using ew) ⟨rfl,fin⟩) hs
theorem ix_tup:IxR X (rIxT X.K):=by
 intro value slice pins s σ H x y v u Q I rx ry h hs;obtain⟨p,xs,i,z,rfl,rfl,hq,he,q⟩:=h;cases rx;obtain⟨t,rfl⟩:=ry;obtain⟨its,r,pl,hz⟩:=I.tuple hq;obtain⟨j,h1,h2,h3,h4,h5⟩:=LZ he;obtain⟨w,ew,rw'⟩:=r.get h2;have hl:=r.length;have hn:=FN;have fin:EP X pins σ Q w s:=⟨z,H,I,rw',q⟩;exact subscriptTail_builtinR (x:=w) pl.typeIs slot_tuple_getitem.lookup
  (getItem_tuple (j:=j) (Q:=λr s'=>r=w/\EP X pins σ Q r s') pl (by omega) (by omega) (by rw[size_toArray,<-hl];exact h1) (by simpa using ew) ⟨rfl,fin⟩) hs
theorem ix_str:IxR X rIxS:=by
 intro value slice pins s σ H x y v u Q I rx ry h hs;obtain⟨z,i,c,rfl,rfl,hz,he,q⟩:=h;obtain⟨t,rfl⟩:=rx;obtain⟨t',rfl⟩:=ry;obtain⟨j,h1,h2,h3,h4,h5⟩:=LZ he;have hl:z.cps.toList.length=z.length:=by simp[Str.length]
 rw[hl]at h1 h4 h5;have hn:=FN;exact tail_any (typeIs_str s z t) slot_str_getitem.lookup (getItem_str (c:=c) (by
  have e1:decide (i< -(2^63:Int))=false:=decide_eq_false (by omega);have e2:decide (i≥2^63)=false:=decide_eq_false (by omega);rw[e1,e2,Bool.or_false]) (by rw[h1];simpa using h2) ⟨.str ⟨#[c]⟩,H,I.tok _,⟨_,rfl⟩,q⟩) hs
theorem QK(its:List Value)(n j:Nat)(u:Value):Obj.mapSeq (·.setIfInBounds j u) {cls:=.type "list",data:=.seq its.toArray n}={cls:=.type "list",data:=.seq (its.set j u).toArray n}:=by
 simp[Obj.mapSeq]
theorem Inv.lst{pins:List (Addr×Obj)}{σ:St}{H:Hp}{s:Shared}{p:Addr}{xs:List V}(I:Inv X pins σ H s)(h:H p=some (.lst xs)):
  ∃(its:List Value) (n:Nat),Vals xs its/\s.heap.get? p=some {cls:=.type "list",data:=.seq its.toArray n}/\xs.length<=sizeLine:=by
 obtain⟨z,its,n,r,e⟩:=I.hok p _ h;exact⟨its,n,r,e,z⟩
theorem Inv.lstUpd{pins:List (Addr×Obj)}{σ:St}{H:Hp}{s:Shared}{p:Addr}{xs ys:List V}{its its':List Value}{n n':Nat}{f:Obj->Obj}(I:Inv X pins σ H s)(h:H p=some (.lst xs))
  (ho:s.heap.get? p=some {cls:=.type "list",data:=.seq its.toArray n})(hf:f {cls:=.type "list",data:=.seq its.toArray n}={cls:=.type "list",data:=.seq its'.toArray n'})(r:Vals ys its')(hz:ys.length<=sizeLine)(t:Nat):
  Inv X pins σ (upd H p (.lst ys)) {s with heap:=s.heap.update p f,toks:=t}:=by
 have e:(s.heap.update p f).get? p=some {cls:=.type "list",data:=.seq its'.toArray n'}:=by
  rw[get?_update_self f ho (by rw[hf]<;>rfl),hf]
 refine I.write (x:=p) (e:=p) (by rw[h];trivial) (.inl rfl) (λb u hb q=>(get?_update_other _ _ (Ne.symm hb)).trans q) ⟨_,e⟩ ?_;exact⟨hz,its',n',r,e⟩
inductive rSetL (o:V) (i:V) (v:V) (H:Hp) (Q:Hp->Prop):Prop
 |mk:∀p xs k j,(o=.ref p)->(i=.int k)->(H p=some (.lst xs))->(ixN xs.length k=some j)->(Q (upd H p (.lst (xs.set j v))))->rSetL o i v H Q
theorem AF:baZ X rSetL:=by
 intro pins s σ H o i v ov iv u Q I ro ri rv h;obtain⟨p,xs,k,j,rfl,rfl,hp,hj,q⟩:=h;cases ro;obtain⟨t,rfl⟩:=ri;obtain⟨its,n,r,ho,hz⟩:=I.lst hp;obtain⟨h1,h2,h3,h4⟩:=RV hj;have hl:=r.length;have hn:=FN;have I':Inv X pins σ (upd H p (.lst (xs.set j v))) {s with heap:=s.heap.update p (Obj.mapSeq (·.setIfInBounds j u))}:=
  I.lstUpd hp ho (QK its n j u) (r.set rv j) (by rw[List.length_set];exact hz) s.toks
 by_cases h0:0<=k
 ·have hk:k.toNat=j:=by
   rw[seqIndex_of h0 h4]at h1;exact Option.some.inj h1
  exact PySem.W.ki_setAt ho h0 (by omega) (by rw[size_toArray,<-hl];exact h4) (by rw[hk];exact⟨_,I',q⟩)
 ·have hk:(k+(its.toArray.size:Int)).toNat=j:=by
   rw[seqIndex_neg (by omega) h3]at h1;rw[size_toArray,<-hl];exact Option.some.inj h1
  exact PySem.W.ki_setBack ho (by omega) (by rw[size_toArray,<-hl];exact h3) (by omega) (by rw[hk];exact⟨_,I',q⟩)
theorem LY(lo hi:Option Int)(n:Nat):(sliceBounds lo hi none n).1=((HT.sIx n 0 lo:Nat):Int)/\(sliceBounds lo hi none n).2.1=((HT.sIx n n hi:Nat):Int)/\(sliceBounds lo hi none n).2.2=1:=by
 refine⟨?_, ?_,rfl⟩
 ·cases lo with
  |none=>simp[sliceBounds,HT.sIx]
  |some i=>
   simp only[sliceBounds,HT.sIx,Option.getD_none,show(1:Int)>0 by decide,if_true];by_cases h:i<0
   ·simp only[h,if_true]<;>omega
   ·simp only[h,if_false]<;>omega
 ·cases hi with
  |none=>simp[sliceBounds,HT.sIx]
  |some i=>
   simp only[sliceBounds,HT.sIx,Option.getD_none,show(1:Int)>0 by decide,if_true];by_cases h:i<0
   ·simp only[h,if_true]<;>omega
   ·simp only[h,if_false]<;>omega
theorem JC(its:List Value)(lo hi:Option Int):slicePick its.toArray lo hi none=((its.drop (HT.sIx its.length 0 lo)).take (HT.sIx its.length its.length hi - HT.sIx its.length 0 lo)).toArray:=by
 obtain⟨h1,h2,h3⟩:=LY lo hi its.toArray.size;unfold slicePick;rw[h1,h2,h3];simp only[sliceRange_one,pick_run,size_toArray]<;>rfl
inductive rSlL (K:FZ) (x:V) (lo:Option Int) (hi:Option Int) (H:Hp) (Q:VK):Prop
 |mk:∀a xs,(x=.ref a)->(SqL K H a xs)->(∀p,H p=none->Q (.ref p) (upd H p (.lst (P3 xs lo hi))))->rSlL K x lo hi H Q
theorem sl_list:SlR X (rSlL X.K):=by
 intro pins s σ H x v vl vu lo hi sl Q I rx hs pl pu h;obtain⟨a,xs,rfl,hx,q⟩:=h;cases rx;obtain⟨its,r,ht,hz⟩:=I.list hx;have hlen:=r.length;refine⟨"list",_,slot_list_getitem.lookup,ht.isList.typeIs, ?_⟩;refine wpAny_getItem_list_slice ht.isList hs pl pu .none (by simp) ?_ (by rw[size_toArray]<;>omega);rw[JC,<-hlen];refine⟨.ref s.heap.objs.size,_,I.laid (t':=s.toks) (o:=.lst (P3 xs lo hi)) (λb ob q=>gZ _ q) (Nat.le_refl _) ?_,rfl,q _ (I.hok.fresh (Nat.le_refl _))⟩;exact⟨Nat.le_trans (GF xs lo hi) hz,_,0,(r.drop (HT.sIx xs.length 0 lo)).take (HT.sIx xs.length xs.length hi - HT.sIx xs.length 0 lo),get?_push_size _ rfl⟩
noncomputable def GB:V->Bool
 | .non=>true
 | .bl _=>true
 | .int _=>true
 | .str _=>true
 |_=>false
noncomputable def eqV:V->V->Bool
 | .non,.non=>true
 | .bl a,.bl b=>a==b
 | .bl a,.int b=>(if a then 1 else 0)==b
 | .int a,.bl b=>a==(if b then 1 else 0)
 | .int a,.int b=>a==b
 | .str a,.str b=>a==b
 |_,_=>false
theorem buZ{A:Around}{s:Shared}{y x:V}{u v:Value}(ry:RelV y u)(rx:RelV x v)(fy:GB y=true)(fx:GB x=true):SeqAt.EqAt A s u v (eqV y x):=by
 cases y with
 |non=>
  cases ry;cases x with
  |non=>cases rx;exact SeqAt.EqAt.same _
  |bl b=>cases rx;exact SeqAt.EqAt.none_bool b
  |int b=>obtain⟨t,rfl⟩:=rx;exact SeqAt.EqAt.none_int b t
  |str b=>obtain⟨t,rfl⟩:=rx;exact SeqAt.EqAt.none_str b t
  |_=>exact absurd (show false=true from fx) nZ
 |bl a=>
  cases ry;cases x with
  |non=>cases rx;exact SeqAt.EqAt.bool_none a
  |bl b=>cases rx;exact SeqAt.EqAt.bool_bool a b
  |int b=>obtain⟨t,rfl⟩:=rx;exact SeqAt.EqAt.bool_int a b t
  |str b=>obtain⟨t,rfl⟩:=rx;exact SeqAt.EqAt.bool_str a b t
  |_=>exact absurd (show false=true from fx) nZ
 |int a=>
  obtain⟨t',rfl⟩:=ry;cases x with
  |non=>cases rx;exact SeqAt.EqAt.int_none a t'
  |bl b=>cases rx;exact SeqAt.EqAt.int_bool a t' b
  |int b=>obtain⟨t,rfl⟩:=rx;exact SeqAt.EqAt.int_int a t' b t
  |str b=>obtain⟨t,rfl⟩:=rx;exact SeqAt.EqAt.int_str a t' b t
  |_=>exact absurd (show false=true from fx) nZ
 |str a=>
  obtain⟨t',rfl⟩:=ry;cases x with
  |non=>cases rx;exact SeqAt.EqAt.str_none a t'
  |bl b=>cases rx;exact SeqAt.EqAt.str_bool a t' b
  |int b=>obtain⟨t,rfl⟩:=rx;exact SeqAt.EqAt.str_int a t' b t
  |str b=>obtain⟨t,rfl⟩:=rx;exact SeqAt.EqAt.str_str a t' b t
  |_=>exact absurd (show false=true from fx) nZ
 |_=>exact absurd (show false=true from fy) nZ
noncomputable def eqU(x:V)(u:Value):Bool:=match u with
 | .none=>eqV .non x
 | .bool b=>eqV (.bl b) x
 | .int i _=>eqV (.int i) x
 | .str z _=>eqV (.str z) x
 |_=>false
theorem VT{x y:V}{u:Value}(r:RelV y u)(f:GB y=true):eqU x u=eqV y x:=by
 cases y with
 |non=>cases r;rfl
 |bl b=>cases r;rfl
 |int i=>obtain⟨t,rfl⟩:=r;rfl
 |str z=>obtain⟨t,rfl⟩:=r;rfl
 |_=>exact absurd (show false=true from f) nZ
theorem LK{x:V}:∀ {xs:List V} {us:List Value},Vals xs us->xs.all GB=true->us.any (eqU x)=xs.any λy=>eqV y x
 |_,_,.nil,_=>rfl
 |y::xs,u::us,.cons r t,f=>by
  rw[List.all_cons,Bool.and_eq_true]at f;rw[any_cons,any_cons,VT r f.1,LK t f.2]
theorem HJ{A:Around}{s:Shared}{x:V}{v:Value}(rx:RelV x v)(fx:GB x=true):∀ {xs:List V} {us:List Value},Vals xs us->xs.all GB=true->∀u∈us,SeqAt.EqAt A s u v (eqU x u)
 |_,_,.nil,_=>λu hu=>by cases hu
 |y::xs,u::us,.cons r t,f=>λu' hu=>by
  rw[List.all_cons,Bool.and_eq_true]at f;rcases cZ hu with rfl|hu
  ·rw[VT r f.1];exact buZ r rx f.1 fx
  ·exact HJ rx fx t f.2 u' hu
noncomputable def inV(x:V)(xs:List V):Bool:=xs.any λy=>eqV y x
inductive rIn (K:FZ) (neg:Bool) (x:V) (y:V) (H:Hp) (Q:VK):Prop
 |mk:∀p xs,(y=.ref p)->((SqL K H p xs\/SqT K H p xs))->(GB x=true)->(xs.all GB=true)->(Q (.bl (if neg then !inV x xs else inV x xs)) H)->rIn K neg x y H Q
theorem op_in_seq:OpR X (compareOp .In) (rIn X.K false):=by
 intro pins s σ H x y v u Q I rx ry h;obtain⟨p,xs,rfl,hq,fx,fs,q⟩:=h;cases ry;rcases hq with hq|hq
 ·obtain⟨its,r,pl,hz⟩:=I.list hq;refine SeqAt.in_listAt (eqU x) pl.isList (λw hw=>HJ rx fx r fs w (by simpa using hw)) ⟨.bl _,H,I,rfl, ?_⟩;rw[show its.toArray.any (eqU x)=its.any (eqU x) by simp,LK r fs];exact q
 ·obtain⟨its,r,pl,hz⟩:=I.tuple hq;refine SeqAt.in_tupleAt (eqU x) pl (λw hw=>HJ rx fx r fs w (by simpa using hw)) ⟨.bl _,H,I,rfl, ?_⟩;rw[show its.toArray.any (eqU x)=its.any (eqU x) by simp,LK r fs];exact q
theorem LV:S7 X (.type "list") (λxs H Q=>∃p ys,xs=[.ref p]/\(SqL X.K H p ys\/SqT X.K H p ys)/\∀l,H l=none->Q (.ref l) (upd H l (.lst ys))):=by
 intro pins s σ H xs us Q I r h;obtain⟨p,ys,rfl,hq,q⟩:=h;obtain⟨u,rfl,rx⟩:=BD r;cases rx;have fin:∀(its:List Value),Vals ys its->ys.length<=sizeLine->∀(h':Heap) (c':Nat),(∀b o',s.heap.get? b=some o'->h'.get? b=some o')->
   h'.get? s.heap.objs.size=some {cls:=.type "list",dict:=none,data:=.seq its.toArray c',slots:= #[]}->EP X pins σ Q (.ref s.heap.objs.size) {s with heap:=h'}:=λits r' hz h' c' kp e=>
  ⟨.ref s.heap.objs.size,_,I.laid (t':=s.toks) kp (Nat.le_refl _) (show ObjOk X.prog X.w _ h' _ (.lst ys)from⟨hz,its,c',r',e⟩),rfl,q _ (I.hok.fresh (Nat.le_refl _))⟩
 rcases hq with hq|hq
 ·obtain⟨its,r',pl,hz⟩:=I.list hq;have hlen:=r'.length;obtain⟨o,ho,hc,n,hd⟩:=pl.isList;exact call_list_seq p (.inl rfl) ho hc hd (λh' c' kp e=>fin its r' hz h' c' kp e) (by simp only[size_toArray]<;>omega)
 ·obtain⟨its,r',pl,hz⟩:=I.tuple hq;have hlen:=r'.length;obtain⟨o,ho,hc,n,hd⟩:=pl;exact call_list_seq p (.inr rfl) ho hc hd (λh' c' kp e=>fin its r' hz h' c' kp e) (by simp only[size_toArray]<;>omega)
theorem JA:S7 X (.type "tuple") (λxs H Q=>∃p ys,xs=[.ref p]/\((SqL X.K H p ys/\∀l,H l=none->Q (.ref l) (upd H l (.tup ys)))\/(SqT X.K H p ys/\Q (.ref p) H))):=by
 intro pins s σ H xs us Q I r h;obtain⟨p,ys,rfl,h⟩:=h;obtain⟨u,rfl,rx⟩:=BD r;cases rx;rcases h with⟨hq,q⟩|⟨hq,q⟩
 ·obtain⟨its,r',pl,hz⟩:=I.list hq;have hlen:=r'.length;refine call_tuple_list pl.isList (λh' kp=> ?_) (by simp only[size_toArray]<;>omega);have I1:Inv X pins σ H {s with heap:=h'}:=I.kept (t':=s.toks) kp;have I2:Inv X pins σ (upd H h'.objs.size (.tup ys)) {s with heap:=h'.push {cls:=.type "tuple",data:=.seq its.toArray}}:=
   I1.laid (t':=s.toks) (λb o e=>gZ _ e) (Nat.le_refl _) (show ObjOk X.prog X.w _ _ _ (.tup ys)from⟨hz,its,r',IsTup.new _ _⟩)
  exact⟨.ref h'.objs.size,_,I2,rfl,q _ (I1.hok.fresh (Nat.le_refl _))⟩
 ·obtain⟨its,r',pl,hz⟩:=I.tuple hq;exact call_tuple_same pl ⟨.ref p,H,I,rfl,q⟩
noncomputable def tyV(K:FZ)(T:String)(x:V)(H:Hp):Prop:=match x with
 | .str _=>T="str"
 | .int _=>T="int"
 | .ref p=>(T="list"/\∃xs,SqL K H p xs)\/(T="tuple"/\∃o,K.lookup p=some o/\o.cls=.type "tuple"/\o.dict=none)\/
   (T="dict"/\((∃kvs,H p=some (.dK kvs))\/∃kvs,H p=some (.dT kvs)))\/(T="set"/\∃S n,H p=some (.set S n))
 |_=>False
theorem VP{pins:List (Addr×Obj)}{σ:St}{H:Hp}{s:Shared}{T:String}{x:V}{v:Value}(I:Inv X pins σ H s)(r:RelV x v)(ty:tyV X.K T x H):
  s.TypeIs v T/\∀a,v=.ref a->∃ob,s.heap.get? a=some ob/\ob.dict=none:=by
 cases x with
 |str z=>
  obtain⟨t,rfl⟩:=r;cases(show T="str"from ty);exact⟨typeIs_str s z t,λ_ e=>nomatch e⟩
 |int i=>
  obtain⟨t,rfl⟩:=r;cases(show T="int"from ty);exact⟨typeIs_int s i t,λ_ e=>nomatch e⟩
 |ref p=>
  cases r;rcases ty with⟨rfl,xs,hq⟩|⟨rfl,o,hk,hc,hd⟩|⟨rfl,hk⟩|⟨rfl,S,n,hk⟩
  ·obtain⟨its,_,pl,_⟩:=I.list hq;refine⟨pl.isList.typeIs,λa e=> ?_⟩;cases e;obtain⟨o,n,e,c,hd,_⟩:=pl;exact⟨o,e,hd⟩
  ·refine⟨⟨o,I.kIn p o hk,hc⟩,λa e=> ?_⟩;cases e;exact⟨o,I.kIn _ o hk,hd⟩
  ·have z:∃o,s.heap.get? p=some o/\o.ExactDict:=by
    rcases hk with⟨kvs,hk⟩|⟨kvs,hk⟩
    ·obtain⟨_,_,_,_,o,_,_,e,ex,_⟩:=I.hok p _ hk;exact⟨o,e,ex⟩
    ·obtain⟨_,_,_,_,o,_,_,e,ex,_⟩:=I.hok p _ hk;exact⟨o,e,ex⟩
   obtain⟨o,e,ex⟩:=z;refine⟨⟨o,e,ex.1⟩,λa e2=> ?_⟩;cases e2;exact⟨o,e,ex.2.1⟩
  ·obtain⟨o,_,_,_,e,ex,_⟩:=I.hok p _ hk;refine⟨⟨o,e,ex.1⟩,λa e2=> ?_⟩;cases e2;exact⟨o,e,ex.2.1⟩
 |_=>exact False.elim ty
noncomputable def clZ(K:FZ)(T:String)(r:V->List V->Hp->VK->Prop)(to:TE):TE:=fun σ H Q=>to σ H λx H1=>tyV K T x H1/\r x [] H1 Q
noncomputable def tBM(K:FZ)(T:String)(r:V->List V->Hp->VK->Prop)(to:TE)(t:TA):TE:=fun σ H Q=>to σ H λx H1=>tyV K T x H1/\t σ H1 λxs H2=>r x xs H2 Q
variable{o e:Expr}{es:List Expr}{to:TE}{t:TA}{name:Str}{apos cpos:Pos}{T id:String}{r:V->List V->Hp->VK->Prop}
theorem bKZ(pa:PlainAttrs T)(slot:Slot T name id)(hty:typeOf (.builtin id)=pure (.type "method_descriptor"))(hm:MtR X id r)(ho:PE X o to)
  (hbase:attributeBase o name X.env (eval o X.env)=eval o X.env:=by rfl)(hline:(apos.endLine==cpos.line)=true:=by rfl):PE X (.Call (.Attribute o name apos) [] [] cpos) (clZ X.K T r to):=by
 intro pins s σ H Q I h;refine wpAny_Call_method0_late hbase hline (thn (ho pins s σ H _ I h) λv s1 ⟨x,H1,I1,r1,ty,q1⟩=> ?_);obtain⟨h1,h2⟩:=VP I1 r1 ty;exact⟨T,id,pa,slot,hty,h1,h2,Calls.callWith_builtin rfl (PySem.evalArgs_none (hm pins s1 σ H1 x [] v [] Q I1 r1 .nil q1))⟩
theorem c0Z(pa:PlainAttrs T)(slot:Slot T name id)(hty:typeOf (.builtin id)=pure (.type "method_descriptor"))(hm:MtR X id r)(ho:PE X o to)(ha:PA X (e::es) t)
  (hbase:attributeBase o name X.env (eval o X.env)=eval o X.env:=by rfl)
  (hfew:((backTo cpos (starEach (e::es) X.env)).all (λx=> !x.1)&&(backToKw cpos (keywordEach [] X.env)).all (λx=>x.1.isSome)
   &&decide ((e::es).length+([]:List Keyword).length+(if([]:List Keyword).isEmpty then 0 else 1)<30))=true:=by rfl)
  (hline:(apos.endLine==cpos.line)=true:=by rfl)(hs:starEach (e::es) X.env=(false,eval e X.env)::starEach es X.env:=by rfl)(hplain:(backTo cpos (starEach es X.env)).any (·.1)=false:=by rfl):
  PE X (.Call (.Attribute o name apos) (e::es) [] cpos) (tBM X.K T r to t):=by
 intro pins s σ H Q I h;refine wpAny_Call_method_late hbase hfew hline rfl (thn (ho pins s σ H _ I h) λv s1 ⟨x,H1,I1,r1,ty,q1⟩=> ?_);obtain⟨h1,h2⟩:=VP I1 r1 ty;refine⟨T,id,pa,slot,hty,h1,h2, ?_⟩;have hA:=ha cpos pins s1 σ H1 _ I1 q1;rw[hs]at hA⊢;refine Calls.callWith_builtin (by show(false||(backTo cpos (starEach es X.env)).any (·.1))=false;rw[hplain]<;>rfl) (Calls.evalArgs_plain ?_);exact thn hA λus s2 ⟨vs,H2,I2,r2,q2⟩=>hm pins s2 σ H2 x vs v us Q I2 r1 r2 q2
end
noncomputable def MtM(X:Cx)(id:String)(r:V->List V->Hp->VK->Prop):Prop:=
 ∀(pins:List (Addr×Obj)) (s:Shared) (σ:St) (H:Hp) (x:V) (xs:List V) (v:Value) (us:List Value) (Q:VK),Inv X pins σ H s->RelV x v->Vals xs us->r x xs H Q->
  wpAny (model X.prog X.w) X.A (call (.builtin id) (v::us)) (EP X pins σ Q) X.xe s
theorem Vals.one:∀ {x:V} {us:List Value},Vals [x] us->∃u,us=[u]/\RelV x u
 |_,_,.cons r .nil=>⟨_,rfl,r⟩
theorem Vals.zero:∀ {us:List Value},Vals [] us->us=[]
 |_,.nil=>rfl
theorem Vals.dropLast{xs:List V}{us:List Value}(h:Vals xs us):Vals xs.dropLast us.dropLast:=by
 induction h with
 |nil=>exact .nil
 |cons r t ih=>
  cases t with
  |nil=>exact .nil
  |cons q t'=>exact .cons r ih
theorem Vals.rep{xs:List V}{us:List Value}(h:Vals xs us):∀k:Nat,Vals (List.replicate k xs).flatten (List.replicate k us).flatten
 |0=> .nil
 |k+1=>by
  rw[replicate_succ,replicate_succ,flatten_cons,flatten_cons];exact Vals.append h (Vals.rep h k)
theorem PR{α:Type}(l:List α):l.eraseIdx (l.length - 1)=l.dropLast:=by
 induction l with
 |nil=>rfl
 |cons a r ih=>
  cases r with
  |nil=>rfl
  |cons b r=>
   have e:(a::b::r).length - 1=((b::r).length - 1)+1:=by
    have h1:(a::b::r).length=r.length+2:=rfl;have h2:(b::r).length=r.length+1:=rfl;omega
   rw[e,List.eraseIdx_cons_succ,ih]
   all_goals rfl
theorem KN(its:List Value):∀(k:Nat) (acc:List Value),
  List.foldl (λx1 x2=>x1++x2) acc.toArray (List.replicate k its.toArray)=(acc++(List.replicate k its).flatten).toArray
 |0,acc=>by simp
 |k+1,acc=>by
  have e:acc.toArray++its.toArray=(acc++its).toArray:=by simp
  have e2:(acc++its)++(List.replicate k its).flatten=acc++(List.replicate (k+1) its).flatten:=by
   rw[replicate_succ,flatten_cons,List.append_assoc]
  rw[<-e2,<-KN its k (acc++its),<-e,replicate_succ,List.foldl_cons]
section
variable{X:Cx}{pins:List (Addr×Obj)}{σ:St}{H:Hp}{s:Shared}{l b:Addr}{xs ys zs:List V}
theorem Inv.lset{its its':List Value}{n:Nat}{f:Array Value->Array Value}{t':Nat}(I:Inv X pins σ H s)(hH:H l=some (.lst xs))
  (e:s.heap.get? l=some {cls:=.type "list",data:=.seq its.toArray n})(hf:f its.toArray=its'.toArray)(hv:Vals ys its')(hz:ys.length<=sizeLine):
  Inv X pins σ (upd H l (.lst ys)) {s with heap:=s.heap.update l (Obj.mapSeq f),toks:=t'}:=by
 have q:=PySem.IsL.update e f;rw[hf]at q;refine I.write (x:=l) (e:=l) (by rw[hH];exact trivial) (.inl rfl) (λb' u hb hu=>(get?_update_other s.heap (Obj.mapSeq f) (Ne.symm hb)).trans hu) ⟨_,q⟩ ?_;exact⟨hz,its',_,hv,q⟩
theorem Inv.lnew{its:List Value}{t':Nat}(I:Inv X pins σ H s)(hv:Vals ys its)(hz:ys.length<=sizeLine):
  Inv X pins σ (upd H s.heap.objs.size (.lst ys)) {s with heap:=s.heap.push {cls:=.type "list",data:=.seq its.toArray},toks:=t'}:=
 I.laid (λ_ _ q=>gZ _ q) (Nat.le_refl _) ⟨hz,its,0,hv,get?_push_size _ rfl⟩
theorem Inv.fresh(I:Inv X pins σ H s):H s.heap.objs.size=none:=I.hok.fresh (Nat.le_refl _)
theorem Inv.lstM(I:Inv X pins σ H s)(hH:H l=some (.lst xs)):xs.length<=sizeLine/\∃(its:List Value) (n:Nat),Vals xs its/\xs.length=its.length/\s.heap.get? l=some {cls:=.type "list",data:=.seq its.toArray n}:=by
 obtain⟨z,its,n,r,e⟩:=I.hok l _ hH;exact⟨z,its,n,r,r.length,e⟩
theorem MT{n:Nat}(h:n<=sizeLine):Builtin.List.listTooLong n=false:=by
 unfold Builtin.List.listTooLong;exact decide_eq_false (by omega)
inductive rAppend(x:V)(vs:List V)(H:Hp)(Q:VK):Prop
 |mk:∀l xs y,(x=.ref l)->(vs=[y])->(H l=some (.lst xs))->(xs.length<sizeLine)->(Q .non (upd H l (.lst (xs++ [y]))))->rAppend x vs H Q
theorem TQ:MtM X "list.append" rAppend:=by
 intro pins s σ H x vs v us Q I rx rv h;obtain⟨l,xs,y,rfl,rfl,hH,hz,q⟩:=h;cases rx;obtain⟨u,rfl,ru⟩:=rv.one;obtain⟨z,its,n,r,hl,e⟩:=I.lstM hH;refine call_meets F.slot_list_append ⟨_,e,rfl⟩ F.entry_list_append (F.args_list_append_2 _ _) (PySem.list_append l its.toArray n u (by rw[size_toArray];omega)) ⟨e, ?_⟩;refine⟨.non,_,I.lset (its':=its++ [u]) hH e (by simp) (r.append (.cons ru .nil)) ?_,rfl,q⟩;rw[length_append,List.length_singleton];omega
noncomputable def ZU:V->List V->Hp->VK->Prop:=λx vs H Q=>∃l b xs zs,x=.ref l/\vs=[.ref b]/\H l=some (.lst xs)/\H b=some (.lst zs)/\xs.length+zs.length<=sizeLine/\Q .non (upd H l (.lst (xs++zs)))
theorem SW:MtM X "list.extend" ZU:=by
 intro pins s σ H x vs v us Q I rx rv h;obtain⟨l,b,xs,zs,rfl,rfl,hH,hB,hz,q⟩:=h;cases rx;obtain⟨u,rfl,ru⟩:=rv.one;cases ru;obtain⟨z,its,n,r,hl,e⟩:=I.lstM hH;obtain⟨z2,its2,n2,r2,hl2,e2⟩:=I.lstM hB;have hsz:its.toArray.size+its2.toArray.size<=sizeLine:=by rw[size_toArray,size_toArray];omega
 have hlong:¬(!its.toArray.isEmpty&&Builtin.List.listTooLong (its.toArray.size+its2.toArray.size))=true:=by
  rw[MT hsz,Bool.and_false];exact nZ
 refine call_meets F.slot_list_extend ⟨_,e,rfl⟩ F.entry_list_extend (F.args_list_extend_2 _ _)
  (AutoSeq1.list_extend_list_list_0 l its.toArray n b its2.toArray n2 hlong (by rw[size_toArray];omega) (by omega)) ⟨e,e2, ?_⟩
 refine⟨.non,_,I.lset (its':=its++its2) hH e (by simp) (r.append r2) ?_,rfl,q⟩;rw[length_append];omega
inductive rPop (x:V) (vs:List V) (H:Hp) (Q:VK):Prop
 |mk:∀l xs y,(x=.ref l)->(vs=[])->(H l=some (.lst xs))->(xs[xs.length - 1]? =some y)->(Q y (upd H l (.lst xs.dropLast)))->rPop x vs H Q
theorem QN:MtM X "list.pop" rPop:=by
 intro pins s σ H x vs v us Q I rx rv h;obtain⟨l,xs,y,rfl,rfl,hH,hy,q⟩:=h;cases rx;have hus:=rv.zero;subst hus;obtain⟨z,its,n,r,hl,e⟩:=I.lstM hH;obtain⟨u,hu,ru⟩:=r.get hy;have hy':its.toArray[its.toArray.size - 1]? =some u:=by
  show its.toArray[its.length - 1]? =some u;rw[<-Array.getElem?_toList,<-hl];exact hu
 refine call_meets F.slot_list_pop ⟨_,e,rfl⟩ F.entry_list_pop (F.args_list_pop_1 _) (MeetsSeq.list_pop_last l its.toArray n u hy' (by rw[size_toArray];omega)) ⟨e, ?_⟩;refine⟨y,_,I.lset (its':=its.dropLast) hH e ?_ r.dropLast ?_,ru,q⟩
 ·show its.toArray.eraseIdxIfInBounds (its.toArray.size - 1)=its.dropLast.toArray;rw[size_toArray,List.eraseIdxIfInBounds_toArray,PR]
 ·rw[List.length_dropLast];omega
inductive rCat (x:V) (y:V) (H:Hp) (Q:VK):Prop
 |mk:∀l b xs zs,(x=.ref l)->(y=.ref b)->(H l=some (.lst xs))->(H b=some (.lst zs))->(xs.length+zs.length<=sizeLine)->(∀p,H p=none->Q (.ref p) (upd H p (.lst (xs++zs))))->rCat x y H Q
theorem ccZ:OpR X (binaryOp .Add) rCat:=by
 intro pins s σ H x y v u Q I rx ry h;obtain⟨l,b,xs,zs,rfl,rfl,hH,hB,hz,q⟩:=h;cases rx;cases ry;obtain⟨z,its,n,r,hl,e⟩:=I.lstM hH;obtain⟨z2,its2,n2,r2,hl2,e2⟩:=I.lstM hB;refine PySem.P.add_list e e2 ?_ (by rw[size_toArray,size_toArray];omega);have ea:its.toArray++its2.toArray=(its++its2).toArray:=by simp
 rw[ea];exact⟨.ref _,_,I.lnew (t':=s.toks) (r.append r2) (by rw[length_append];omega),rfl,q _ I.fresh⟩
noncomputable def cVZ:R2:=λx y H Q=>∃l k xs,x=.ref l/\y=.int k/\H l=some (.lst xs)/\ -(2^63)<=k/\k<2^63/\xs.length*k.toNat<=sizeLine/\
 ∀p,H p=none->Q (.ref p) (upd H p (.lst (List.replicate k.toNat xs).flatten))
theorem ZR{α:Type}(xs:List α)(k:Nat):(List.replicate k xs).flatten.length=k*xs.length:=by
 induction k with
 |zero=>simp
 |succ k ih=>rw[replicate_succ,flatten_cons,length_append,ih,Nat.succ_mul,Nat.add_comm]
theorem b4Z:OpR X (binaryOp .Mult) cVZ:=by
 intro pins s σ H x y v u Q I rx ry h;obtain⟨l,k,xs,rfl,rfl,hH,h1,h2,hz,q⟩:=h;cases rx;obtain⟨t,rfl⟩:=ry;obtain⟨z,its,n,r,hl,e⟩:=I.lstM hH;have hlen:its.toArray.size*k.toNat<=sizeLine:=by rw[size_toArray,<-hl];exact hz
 have hcap:¬its.toArray.size*k.toNat>(2^63 - 1)/8:=by
  have:(sizeLine:Nat)<=(2^63 - 1)/8:=by decide
  omega
 have hfit:¬(!Builtin.List.listFitsIndex k)=true:=by
  rw[fitsIndex_both h1 h2];exact nZ
 have hlong:¬Builtin.List.listTooLong (its.toArray.size*k.toNat)=true:=by
  rw[MT hlen];exact nZ
 have hnew:List.foldl (λx1 x2=>x1++x2) #[] (List.replicate (if its.toArray.isEmpty=true then 0 else k.toNat) its.toArray)=(List.replicate k.toNat its).flatten.toArray:=by
  have f0:∀m:Nat,List.foldl (λx1 x2=>x1++x2) #[] (List.replicate m its.toArray)=(List.replicate m its).flatten.toArray:=λm=>by
   have:=KN its m [];rw[List.nil_append]at this;exact this
  rw[f0];cases its with
  |nil=>simp
  |cons a r'=>rw[if_neg (by simp)]
 refine wpAny_binaryOp_repeat_ref (T:="list") (U:="int") (by decide) ⟨_,e,rfl⟩ (λs'=>typeIs_int s' k t) noFill_list_mul F.fills_int_mul F.slot_int_rmul repeat_list F.slot_int_index.lookup
  (call_meets F.slot_int_rmul (typeIs_int s k t) F.entry_int_rmul (F.args_int_rmul_2 _ _) (int___rmul___int_list k t l its.toArray n)
   ⟨e,rfl,⟨_,e,rfl⟩,call_meets F.slot_list_mul ⟨_,e,rfl⟩ F.entry_list_mul (F.args_list_mul_2 _ _) (AutoListH.list___mul___list_int_3 l its.toArray n k t hfit hcap hlong) ⟨e, ?_⟩⟩)
 rw[hnew];exact⟨.ref _,_,I.lnew (t':=s.toks) (r.rep k.toNat) (by rw[ZR,Nat.mul_comm];exact hz),rfl,q _ I.fresh⟩
variable{prog:Program}{w:World}{A:Around}{E:Value->Shared->Prop}
end
end _L
namespace Att
open PySem PySem.W PySem.Calls PyProof.Rows
theorem GQ{P:Params}{h:Heap}:∀(ns:List Int) (vs:List Value),WellAll P h vs (ns.map WData.int)->IntsAre vs ns:=by
 intro ns;induction ns with
 |nil=>
  intro vs w;rw[List.map_nil]at w;cases w;exact .nil
 |cons n ns ih=>
  intro vs w;rw[map_cons]at w;cases w with
  |cons a b=>
   cases a;exact .cons _ _ (ih _ b)
theorem TU{l:OpenLaw}{n:Nat}(hn:l.most=some n){P:Params}{h:Heap}{args:List WData}{vals:List Value}
  (hpre:l.row.toRowW.claim.pre args=true)(hwl:WellAll P h vals args):
  ∃a vs ns,vals=[Value.ref a]/\args=[WData.list (ns.map WData.int)]/\h.get? a=some {cls:=.type "list",data:=.seq vs.toArray}/\IntsAre vs ns/\ns.length<=n:=by
 have hsh:WShape.hasAll [] args [.list .int]=true:=(pre_splitW hpre).1;have hc:l.pre.holds [] {args:=args}=true:=(pre_splitW hpre).2;obtain⟨d,r,rfl,h1,h2⟩:=hasAllW_cons hsh;obtain rfl:=hasAllW_nil h2;obtain⟨xs,rfl,h3⟩:=hasW_list h1;obtain⟨ns,rfl⟩:=items_int h3;have hlen:ns.length<=n:=by
  unfold OpenLaw.pre at hc;have h4:(WTm.not (.lt (.lit (.int (n:Int))) (.len (.arg 0)))).holds [] {args:=[.list (ns.map .int)]}=true:=by
   have h4:=(holds_andW hc).1;rw[hn]at h4;exact h4
  have h5:=condW_of h4 (w_not (w_lt w_lit (w_len_list (w_arg rfl))));rw[length_map]at h5;refine Nat.le_of_not_lt λq=> ?_;have q':(n:Int)<((ns.length:Nat):Int):=by omega
  first
   |(rw[decide_eq_true q']at h5;exact absurd h5 (by decide))
   |(simp at h5;omega)
 cases hwl with
 |cons w1 w2=>
  cases w2;cases w1 with
  |list ho hall=>exact⟨_,_,ns,rfl,rfl,ho,GQ ns _ hall,hlen⟩
theorem SS(l:OpenLaw)(args:List WData):l.row.toRowW.claim.post args (.bool true) args=true:=
 postW_of (r:=l.row.toRowW) (X:=(true==true))
  (show WShape.has [] (.bool true) .bool=true by first|rfl|decide|simp[WShape.has,WShape.arms,WShape.armsAll])
  (show(WTm.eq .res (.lit (.bool true))).value [] {args:=args,res:=some (.bool true),after:=args}=some (.bool (true==true))from w_eq_bool (w_res rfl) w_lit) rfl
theorem attach_call{l:OpenLaw}{n:Nat}{q:Program}{loose:List Str}{XP:(Str->Option Value)->Heap->Prop}{YP:World->Heap->Prop}{d:DefRec}
  (hn:l.most=some n)(hdf:d.params.defaults=[])
  (call:∀(w:World) (s₀ s₁:Shared) (mg mb:Str->Option Value) (fa:Addr) (o:Obj) (pm cd doc:Value) (a:Addr) (vs:List Value) (ns:List Int),
   Ground q loose [] XP w s₀ mg mb s₁.heap->YP w s₁.heap->
   s₁.heap.get? fa=some o->o.data=.func (docDef d.name d.params d.body d.scope pm cd doc)->s₁.heap.CodeRec cd d.name->mg d.name=some (.ref fa)->
   s₁.heap.get? a=some {cls:=.type "list",data:=.seq vs.toArray}->IntsAre vs ns->ns.length<=n->s₁.gens= #[]->
   codeAny (model l.prog w) callerA (.call (.ref fa) ⟨[.ref a],[]⟩) (λr s'=>r=.ok (.ret (.bool true))/\OldK s₁.heap s'.heap/\s'.os=s₁.os/\AllBare s'.gens) s₁):
  WalkO q loose XP YP l.row.toRowW d [] (λf vs=>PySem.call f vs):=by
 intro w s₀ s₁ mg mb G Y fa o pm cd doc dV kV ho hd hcd hD hmg hg args vals as hpre hlay hrd hwl hlo;obtain rfl:dV=.none:=Dflts.none hD hdf;obtain rfl:kV=.none:=Dflts.noKw hD;obtain⟨a,vs,ns,rfl,rfl,hobj,hints,hlen⟩:=TU hn hpre hwl;refine enter_call (codeAny_mono (call w s₀ s₁ mg mb fa o pm cd doc a vs ns G Y ho (fd_plain hd) hcd hmg hobj hints hlen hg) λr s' hq=> ?_);obtain⟨rfl,h2,h3,h4⟩:=hq;exact⟨.inl ⟨.bool true,.bool true,[],rfl,λ_=>rfl,.bool true,SS l _,λ_=>⟨List.Pairwise.nil,λ_ hm=>(nomatch hm)⟩⟩,h2,h3,h4⟩
section
variable{prog:Program}{w:World}{A:Around}{E:Value->Shared->Prop}{s:Shared}{K:Frag}
end
end Att
namespace _L
open PySem PySem.Spec PyProof.Rows
theorem KM:∀ {vs:List Value} {ns:List Int},IntsAre vs ns->Vals (ns.map V.int) vs
 |_,_,.nil=> .nil
 |_,_,.cons n t h=> .cons ⟨t,rfl⟩ (KM h)
noncomputable def ZX(H:Hp):Prop:=∀b,H b=none\/∃o xs,H b=some (.frz o (.lst xs))
theorem XL{P:Program}{w:World}{K:FZ}{mg mb:Str->Option Value}{CX:CXT}{k:Nat}{fa a:Addr}{fd:FuncData}{x:Str}{sp:Sp}{s₁:Shared}{vs:List Value}{ns:List Int}
  (KX:K.In s₁.heap)(hns:s₁.heap.Ns mainGlobals mg)(hb:s₁.heap.Ns builtinsNs mb)(hbb:∀x:Str,x≠ "__name__"->mb x=bootBuiltins x)(hlim:s₁.heap.NoLimit)(hg:s₁.gens= #[])
  (ha:s₁.heap.get? a=some {cls:=.type "list",data:=.seq vs.toArray})(hi:IntsAre vs ns)(hl:ns.length<=sizeLine)(hr:Room k callerA)
  (F:∀base:Heap,K.In base->base.Ns mainGlobals mg->FnOk P w K mg base CX k fa fd [x] sp)(hbind:∀(s:Shared) (u:Value),BindsTo s fd ⟨[u],[]⟩ [(x,u)])
  (hsp:∀H:Hp,ZX H->SqL K H a (ns.map V.int)->sp [.ref a] H (λv _=>v=.bl true) λ_ _ _=>False)
  (hCX:∀H e s',CX [] H s₁ (λ_ _ _=>False) e s'->False):
  codeAny (model P w) callerA (.call (.ref fa) ⟨[.ref a],[]⟩) (λr s'=>r=.ok (.ret (.bool true))/\OldK s₁.heap s'.heap/\s'.os=s₁.os/\AllBare s'.gens) s₁:=by
 have rv:=KM hi;have lenV:=hi.length;have core:∀H:Hp,ZX H->SqL K H a (ns.map V.int)->HOk P w H s₁.heap->(∀b,H b≠none->b=a)->(H a≠none->K.lookup a=none)->
   codeAny (model P w) callerA (.call (.ref fa) ⟨[.ref a],[]⟩) (λr s'=>r=.ok (.ret (.bool true))/\OldK s₁.heap s'.heap/\s'.os=s₁.os/\AllBare s'.gens) s₁:=by
  intro H hO hS hok hA hK;have base_of:∀ {b:Addr} {o:Obj},s₁.heap.get? b=some o->H b=none->(LD s₁.heap H).get? b=some o:=λe n=>XT e n;have noA:∀ {b:Addr} {o:Obj} {es:Array DictEntry} {ep:Nat},s₁.heap.get? b=some o->o.data=.dict es ep->H b=none:=λ{b o es ep} e d=>by
   cases q:H b with
   |none=>rfl
   |some u=>
    have e':b=a:=hA b (by rw[q];simp);subst e';rw[ha]at e;cases e;have d':Data.seq vs.toArray _=Data.dict es ep:=d;cases d'
  have nsK:∀ {b:Addr} {m:Str->Option Value},s₁.heap.Ns b m->(LD s₁.heap H).Ns b m:=λ{b m} ⟨o,es,ep,e,d,r⟩=>⟨o,es,ep,base_of e (noA e d),d,r⟩;have hKb:K.In (LD s₁.heap H):=λb o e=>base_of (KX b o e) (by
   cases q:H b with
   |none=>rfl
   |some u=>
    have e':b=a:=hA b (by rw[q];simp);subst e';rw[hK (by rw[q];simp)]at e;cases e)
  have hM:Mod K mg (LD s₁.heap H):=⟨hKb,nsK hns,⟨mb,nsK hb,hbb⟩,let⟨mc,h1,h2⟩:=hlim;⟨mc,nsK h1,h2⟩⟩;have e0:Env0 P w K mg (LD s₁.heap H) callerA [] s₁ H:=⟨rfl,hM,λb o e=>ZQ e,Nat.le_of_eq (UG _ _),trivial,λb hb=>absurd (show b∈([]:List Addr)from hb) (by simp),hok,.of_eq hg⟩;refine codeAny_mono ((F _ hKb (nsK hns)).run callerA [] s₁ H ⟨[.ref a],[]⟩ [.ref a] [.ref a] _ _ hr e0 (hbind s₁ (.ref a)) (.cons rfl .nil) (hsp H hO hS)) λr s' h=> ?_;cases r with
  |error e=>exact(hCX H e s' h).elim
  |ok fl=>
   cases fl with
   |next=>exact False.elim h
   |brk=>exact False.elim h
   |cont=>exact False.elim h
   |ret u=>
    obtain⟨v,H',os,bare,un,hok',r',q⟩:=h;have q':v=.bl true:=q;subst q';obtain rfl:u=Value.bool true:=r';refine⟨rfl,OldK.of_keep λb o e=> ?_,os,bare⟩;cases q:H b with
    |none=>exact un.keep b o e q (by intro z;exact absurd (show b∈([]:List Addr)from z) (by simp)) (by simp)
    |some u=>
     rcases hO b with z|⟨ob,xs,z⟩
     ·rw[q]at z;cases z
     ·have z2:=un.frzs b ob _ z;obtain⟨e1,_⟩:=hok b _ z;obtain⟨e2,_⟩:=hok' b _ z2;rw[e]at e1;cases e1;exact e2
 cases hk:K.lookup a with
 |some o=>
  have e:=KX a o hk;rw[ha]at e;cases e;refine core (λ_=>none) (λ_=> .inl rfl) (.inr ⟨_,vs.toArray,_,hk,rfl,rfl,rfl,by rw[size_toArray,lenV];exact hl,by simpa using rv⟩) (λb u z=>by have z':(none:Option HO)=some u:=z;cases z') (λb z=>absurd rfl z) λz=>absurd rfl z
 |none=>
  refine core (λb=>if b=a then some (.frz {cls:=.type "list",data:=.seq vs.toArray} (.lst (ns.map V.int)))else none) (λb=> ?_) (.inl (.inr ⟨{cls:=.type "list",data:=.seq vs.toArray},if_pos rfl⟩)) (λb u z=> ?_) (λb z=> ?_) λ_=>hk
  ·by_cases hb:b=a
   ·exact .inr ⟨_,_,if_pos hb⟩
   ·exact .inl (if_neg hb)
  ·by_cases hb:b=a
   ·have z':=(if_pos hb).symm.trans z;cases z';subst hb;exact⟨ha,by rw[length_map];exact hl,vs,_,rv,ha⟩
   ·have z':=(if_neg hb).symm.trans z;cases z'
  ·by_cases hb:b=a
   ·exact hb
   ·exact absurd (if_neg hb) z
theorem walk_of{l:PySem.W.OpenLaw}{n k:Nat}{q:Program}{loose:List Str}{XP:(Str->Option Value)->Heap->Prop}{YP:World->Heap->Prop}{d:DefRec}{K:Params->FZ}{CX:World->CXT}{sp:World->Sp}{x:Str}
  (hn:l.most=some n)(hn2:n<=sizeLine)(hdf:d.params.defaults=[])(hr:Room k callerA)
  (hY:∀(w:World) (h:Heap),YP w h->(K w.params).In h)
  (F:∀(w:World) (mg:Str->Option Value) (fa:Addr) (h:Heap),(K w.params).In h->h.Ns mainGlobals mg->mg d.name=some (.ref fa)->
   ∃fd:FuncData,(∀(s:Shared) (u:Value),BindsTo s fd ⟨[u],[]⟩ [(x,u)])/\
    ∀base:Heap,(K w.params).In base->base.Ns mainGlobals mg->FnOk l.prog w (K w.params) mg base (CX w) k fa fd [x] (sp w))
  (hsp:∀(w:World) (H:Hp) (a:Addr) (ns:List Int),ns.length<=n->ZX H->SqL (K w.params) H a (ns.map V.int)->sp w [.ref a] H (λv _=>v=.bl true) λ_ _ _=>False)
  (hCX:∀(w:World) (H:Hp) (s:Shared) (e:Value) (s':Shared),CX w [] H s (λ_ _ _=>False) e s'->False):
  PySem.W.WalkO q loose XP YP l.row.toRowW d [] (λf vs=>PySem.call f vs):=by
 refine Att.attach_call hn hdf λw s₀ s₁ mg mb fa o pm cd doc a vs ns G Y ho hd hcd hmg hobj hints hlen hg=> ?_;have KX:=hY w _ Y;obtain⟨fd,hb,hF⟩:=F w mg fa _ KX G.T.g hmg;exact XL KX G.T.g G.T.b G.T.builtins G.T.nolimit hg hobj hints (Nat.le_trans hlen hn2) hr hF hb (λH hO hS=>hsp w H a ns hlen hO hS) λH e s'=>hCX w H s₁ e s'
noncomputable def K6(s:Stmt):Arguments:=match s with
 | .FunctionDef _ a _ _ _ _ _ _ _ _=>a
 |_=> {posonlyargs:=[],args:=[],vararg:=none,kwonlyargs:=[],kw_defaults:=[],kwarg:=none,defaults:=[]}
noncomputable def K2(s:Stmt):List Stmt:=match s with
 | .FunctionDef _ _ b _ _ _ _ _ _ _=>b
 |_=> []
noncomputable def B3(s:Stmt):Scope:=match s with
 | .FunctionDef _ _ _ _ _ _ sc _ _ _=>sc
 |_=> {kind:=.function,names:=[],isGenerator:=false,isCoroutine:=false}
noncomputable abbrev CX0:CXT:=λ_ _ _ _ _ _=>False
noncomputable abbrev E0:XK:=λ_ _ _=>False
theorem E5{X:Cx}:FK CX0 X E0:=λ_ _ _ _ _ _ _ h=>h.elim
structure Fun (K:FZ) (x qual:Str) (st:Stmt) (f:Addr) (fd:FuncData):Prop where
 ex:∃(oc:Value) (od:Option Addr) (kV doc pm:Value) (an:Option Addr) (cdv ct:Value) (osl:Array (Option Value)),
  fd=fnOf x qual (K6 st) (K2 st) (B3 st) .none kV doc pm an cdv ct/\K.lookup f=some ⟨oc,od,.func fd,osl⟩/\codeIn K cdv qual=true
 kp:kZ K (.ref f)=true
section
variable{P:Program}{w:World}{K:FZ}{mg:Str->Option Value}{base:Heap}
theorem Fun.ok{x qual:Str}{st:Stmt}{f:Addr}{fd:FuncData}{N ps:List Str}{k:Nat}{sp:Sp}(F:Fun K x qual st f fd)(S:FnScope N ps (B3 st))(len:∀vs H Q E,sp vs H Q E->vs.length=ps.length)
  (hbody:∀(cdv:Value) (A:Around) (outer:List Env) (s:Shared) (H:Hp) (vs:List V) (Q:VK) (E:XK),Room k (A.deeper (envOfC qual (B3 st) s.heap.objs.size f cdv))->sp vs H Q E->
   ∃t,PSs (OW CX0 P w K mg base N qual (B3 st) f cdv A outer s H E).nox (K2 st) t/\t {nx:=λ_ H'=>Q .non H',rt:=Q} (start N vs) H):FnOk P w K mg base CX0 (k+1) f fd ps sp:=by
 obtain⟨oc,od,kV,doc,pm,an,cdv,ct,osl,rfl,lk,hcd⟩:=F.ex;refine crZ lk hcd S len λA outer s H vs Q E hr hsp=> ?_;obtain⟨t,h,q⟩:=hbody cdv A outer s H vs Q E hr hsp;exact⟨t,h.nox,q⟩
theorem Fun.binds{x qual:Str}{st:Stmt}{f:Addr}{fd:FuncData}{ps:List Str}(F:Fun K x qual st f fd)
  (h:∀(kV doc pm:Value) (an:Option Addr) (cdv ct:Value) (us:List Value),us.length=ps.length->bindArgs (fnOf x qual (K6 st) (K2 st) (B3 st) .none kV doc pm an cdv ct) ⟨us,[]⟩=pure (ps.zip us)):Binds K fd ps []:=by
 obtain⟨oc,od,kV,doc,pm,an,cdv,ct,osl,rfl,lk,hcd⟩:=F.ex;exact .all (h kV doc pm an cdv ct)
theorem YA{x qual:Str}{st:Stmt}{f:Addr}{oc:Value}{od an:Option Addr}{osl:Array (Option Value)}{kV doc pm cdv ct:Value}(l:K.lookup f=some ⟨oc,od,.func (fnOf x qual (K6 st) (K2 st) (B3 st) .none kV doc pm an cdv ct),osl⟩)
  (c:codeIn K cdv qual=true)(k:kZ K (.ref f)=true):Fun K x qual st f (fnOf x qual (K6 st) (K2 st) (B3 st) .none kV doc pm an cdv ct):=⟨⟨oc,od,kV,doc,pm,an,cdv,ct,osl,rfl,l,c⟩,k⟩
variable{X:Cx}
theorem pv(i:Nat){x:Str}{pos:Pos}(hN:X.N[i]? =some x:=by rfl)(hv:Vis X.env.scope x:=by first|exact Or.inl rfl|exact Or.inr (Or.inl rfl)|exact Or.inr (Or.inr rfl))(hd:(x==("__debug__":Str))=false:=by decide)
  (hcd:(x==("__classdict__":Str))=false:=by decide):PE X (.Name x pos) (tVar i):=bMZ hN hv hd hcd
end
theorem F9{c A B:Prop}[Decidable c](h1:c->A)(h2:¬c->B):if c then A else B:=by
 by_cases h:c
 ·rw[if_pos h];exact h1 h
 ·rw[if_neg h];exact h2 h
noncomputable def Same(H H':Hp):Prop:=∀b o,H b=some o->H' b=some o
theorem Same.refl(H:Hp):Same H H:=λ_ _ h=>h
theorem Same.trans{H H1 H2:Hp}(a:Same H H1)(b:Same H1 H2):Same H H2:=λc o h=>b c o (a c o h)
theorem Same.free{H H':Hp}(e:Same H H'){l:Addr}(h:H' l=Option.none):H l=Option.none:=by
 cases q:H l with
 |none=>rfl
 |some o=>
  rw[e l o q]at h;cases h
theorem LU{α β:Type}{M:Model}{A:Around}{a:α}{Q:α->Shared->Prop}{E:Value->Shared->Prop}{s:Shared}{t2:Sem β}{Q2:β->Shared->Prop}{E2:Value->Shared->Prop}
  (h:wpAny M A (pure a:Sem α) Q E s)(k:Q a s->wpAny M A t2 Q2 E2 s):wpAny M A t2 Q2 E2 s:=fun Γ p hΓ=>k (h Γ p hΓ) Γ p hΓ
noncomputable def PTs(X:Cx)(ifs:List Expr)(t:TT):Prop:=
 ∀(pins:List (Addr×Obj)) (s:Shared) (σ:St) (H:Hp) (Q:Bool->Hp->Prop),Inv X pins σ H s->t σ H Q->
  wpAny (model X.prog X.w) X.A (forIn ifs true λc r=>if r=true then do let ok<-isTrue c X.env (eval c X.env);pure (ForInStep.yield ok)else pure (ForInStep.yield r)) (TP X pins σ Q) X.xe s
noncomputable def RF:TT:=λ_ H Q=>Q true H
theorem P5{X:Cx}:PTs X [] RF:=λ_ _ _ H _ I h=>wpAny_tests_nil ⟨H,I,h⟩
theorem U6{X:Cx}{c:Expr}{t:TT}(h:PT X c t):PTs X [c] t:=λpins s σ H Q I hq=>wpAny_tests_one (h pins s σ H Q I hq)
noncomputable def BN(cells:List (Str×Addr))(names:List (Str×NameKind))(acc:List (Str×Addr)):List (Str×Addr):=
 match names with
 | []=>acc
 |(n,k)::r=>BN cells r (if k==.free then(n,(cells.lookup n).getD 0)::acc else acc)
theorem EH{env:Env}:∀(names:List (Str×NameKind)) (acc:List (Str×Addr)),(∀y∈names,y.2=.free->∃c,env.cells.lookup y.1=some c)->
  (forIn names acc λ(x:Str×NameKind) (r:List (Str×Addr))=>if(x.2==.free)=true then(do let a<-cellOf env x.1;pure (ForInStep.yield ((x.1,a)::r)):Sem (ForInStep (List (Str×Addr))))else pure (ForInStep.yield r))=(pure (BN env.cells names acc):Sem (List (Str×Addr)))
 | [],acc,_=>rfl
 |(n,k)::r,acc,h=>by
  have ih:=EH (env:=env) r;rw[forIn_cons];by_cases hk:(k==NameKind.free)=true
  ·obtain⟨c,hc⟩:=h (n,k) mem_cons_self (by simpa using hk);have hc':cellOf env n=pure c:=by unfold cellOf;rw[hc]
   dsimp only
   rw[if_pos hk,hc'];have e:BN env.cells ((n,k)::r) acc=BN env.cells r ((n,c)::acc):=by
    show BN env.cells r (if(k==NameKind.free)=true then(n,(env.cells.lookup n).getD 0)::acc else acc)=_;rw[if_pos hk,hc];rfl
   rw[e,<-ih ((n,c)::acc) λy hy=>h y (mem_cons_of_mem _ hy)];rfl
  ·dsimp only
   rw[if_neg hk];have e:BN env.cells ((n,k)::r) acc=BN env.cells r acc:=by
    show BN env.cells r (if(k==NameKind.free)=true then(n,(env.cells.lookup n).getD 0)::acc else acc)=_;rw[if_neg hk]
   rw[e,<-ih acc λy hy=>h y (mem_cons_of_mem _ hy)];rfl
theorem BG{scope:Scope}{env:Env}(h:∀y∈scope.names,y.2=.free->∃c,env.cells.lookup y.1=some c):closureFor scope env=pure (BN env.cells scope.names []):=by
 unfold closureFor;have e:=EH (env:=env) scope.names [] h
 first
  |exact e
  |(simp only[bind_pure_comp,map_pure]at*;exact e)
  |(rw[<-e];simp)
theorem IM{cells:List (Str×Addr)}:∀(names:List (Str×NameKind)) (acc:List (Str×Addr)) (p:Str×Addr),(∀y∈names,y.2=.free->∃c,cells.lookup y.1=some c)->p∈BN cells names acc->p∈acc\/(cells.lookup p.1=some p.2/\(p.1,NameKind.free)∈names)
 | [],acc,p,_,h=> .inl h
 |(n,k)::r,acc,p,hn,h=>by
  have h':p∈BN cells r (if(k==NameKind.free)=true then(n,(cells.lookup n).getD 0)::acc else acc):=h;rcases IM r _ p (λy hy=>hn y (mem_cons_of_mem _ hy)) h' with q|⟨q1,q2⟩
  ·by_cases hk:(k==NameKind.free)=true
   ·rw[if_pos hk]at q;rcases cZ q with e|q
    ·have hk':k=.free:=by simpa using hk
     obtain⟨c,hc⟩:=hn (n,k) mem_cons_self hk';subst e;refine .inr ⟨?_, ?_⟩
     ·show cells.lookup n=some ((cells.lookup n).getD 0);have hc':cells.lookup n=some c:=hc;rw[hc'];rfl
     ·rw[<-hk'];exact mem_cons_self
    ·exact .inl q
   ·rw[if_neg hk]at q;exact .inl q
  ·exact .inr ⟨q1,mem_cons_of_mem _ q2⟩
theorem IN{cells:List (Str×Addr)}:∀(names:List (Str×NameKind)) (acc:List (Str×Addr)) (n:Str),((n,NameKind.free)∈names\/∃c,(n,c)∈acc)->∃c,(n,c)∈BN cells names acc
 | [],acc,n,h=>by
  rcases h with h|h
  ·cases h
  ·exact h
 |(m,k)::r,acc,n,h=>by
  show∃c,(n,c)∈BN cells r (if(k==NameKind.free)=true then(m,(cells.lookup m).getD 0)::acc else acc);refine IN r _ n ?_;rcases h with h|⟨c,h⟩
  ·rcases cZ h with e|h
   ·injection e with e1 e2
    subst e1;subst e2;exact .inr ⟨_,by rw[if_pos (show(NameKind.free==NameKind.free)=true from rfl)];exact mem_cons_self⟩
   ·exact .inl h
  ·refine .inr ⟨c, ?_⟩;split
   ·exact mem_cons_of_mem _ h
   ·exact h
theorem AD{α:Type}{n:Str}{c:α}:∀ {l:List (Str×α)},(n,c)∈l->∃d,l.lookup n=some d/\(n,d)∈l
 |(m,d)::r,h=>by
  by_cases e:n=m
  ·subst e;exact⟨d,by simp[lookup_cons],mem_cons_self⟩
  ·rcases cZ h with q|q
   ·injection q with q1 _
    exact absurd q1 e
   ·obtain⟨d',h1,h2⟩:=AD q;refine⟨d', ?_,mem_cons_of_mem _ h2⟩;rw[lookup_cons];have:(n==m)=false:=beq_eq_false_iff_ne.mpr e;rw[this];exact h1
structure CompScope (N:List Str) (sc scope:Scope) (x:Str) (caps:List Nat) (ns:List Str):Prop where
 cell:∀y∈scope.names,y.2≠ .cell
 kind:scope.kind=.function
 names:∀y∈scope.names,y.2=.local->scope.names.lookup y.1=some .local
 var:scope.names.lookup x=some .local
 free:∀y∈scope.names,y.2=.free->sc.names.lookup y.1=some .cell\/sc.names.lookup y.1=some .free
 at_:caps.map (λj=>N[j]?)=ns.map some
 nsf:∀y∈ns,scope.names.lookup y=some .free
 nd:(x::ns).Nodup
noncomputable def Cx.comp(X:Cx)(N':List Str)(scope:Scope)(cl:List (Str×Addr))(C:Addr)(s:Shared)(H:Hp)(fp:List Addr):Cx:=
 {X with N:=N',s₀:=s,H₀:=H,env:=compEnvC scope cl C X.env,outer:=X.stack,ex:=fp,fn:=λ_=>false,xe:=λ_ _=>False}
noncomputable def capσ(caps:List Nat)(σ:St)(v:Option V):St:=v::caps.map λj=>(σ[j]?).getD none
noncomputable def YO(wi:TI)(caps:List Nat)(tt:TT)(te:TE)(σ:St)(H:Hp)(R:List V->Hp->Prop):Prop:=wi σ H λJ H1=>∃W:Nat->Nat->List V->Hp->Prop,(∃m,W 0 m [] H1)/\∀i m ys H,W i m ys H->
 ys.length<=sizeLine/\((J.stop i H/\R ys H)\/(J.go i H/\∃N:List V->Hp->Prop,(∀ys' H',N ys' H'->∃m',m'<m/\W (i+1) m' ys' H')/\∀v H',J.yld i H v H'->tt (capσ caps σ (some v)) H' λb H2=>
  if b=true then te (capσ caps σ (some v)) H2 λy H3=>N (ys++ [y]) H3 else N ys H2))
noncomputable def aRZ(wi:TI)(caps:List Nat)(tt:TT)(te:TE):TE:=fun σ H Q=>YO wi caps tt te σ H λys H1=>∀D,H1 D=none->Q (.ref D) (upd H1 D (.lst ys))
theorem BP{scope:Scope}{env:Env}{y:Str}(h:((relabel scope env).names.lookup y=some .cell\/(relabel scope env).names.lookup y=some .free))(hc:∀y∈scope.names,y.2≠ .cell):(y,NameKind.free)∈scope.names:=by
 have h':∃k,(k=.cell\/k=.free)/\(y,k)∈(relabel scope env).names:=by
  rcases h with h|h
  ·exact⟨_,.inl rfl,PySem.mem_of_lookup h⟩
  ·exact⟨_,.inr rfl,PySem.mem_of_lookup h⟩
 obtain⟨k,hk,hm⟩:=h';unfold relabel at hm;obtain⟨⟨n,k0⟩,hm0,e⟩:=mem_map.mp hm
 dsimp only at e
 split at e
 ·rename_i hcond;injection e with e1 e2
  subst e1;have:k0=.free:=by
   simp only[Bool.and_eq_true]at hcond
   simpa using hcond.1.1
  subst this;exact hm0
 ·injection e with e1 e2
  subst e1;subst e2;rcases hk with rfl|rfl
  ·exact absurd rfl (hc _ hm0)
  ·exact hm0
theorem P9{env:Env}:∀ {names:List (Str×NameKind)} {x:Str},names.lookup x=some .free->
  (names.map λ(n,k)=>if(k==NameKind.free&&env.scope.kind==.function&&env.kindOf n==some .cell)then(n,NameKind.cell)else(n,k)).lookup x=some .cell\/
  (names.map λ(n,k)=>if(k==NameKind.free&&env.scope.kind==.function&&env.kindOf n==some .cell)then(n,NameKind.cell)else(n,k)).lookup x=some .free
 | [],_,h=>by simp at h
 |(n,k)::r,x,h=>by
  have ih:= @P9 env r x;show(List.lookup x ((if(k==NameKind.free&&env.scope.kind==.function&&env.kindOf n==some .cell)=true then(n,NameKind.cell)else(n,k))::_)=_)\/(List.lookup x ((if(k==NameKind.free&&env.scope.kind==.function&&env.kindOf n==some .cell)=true then(n,NameKind.cell)else(n,k))::_)=_);cases hx:x==n with
  |true=>
   simp only[lookup_cons,hx]at h;cases h;split
   ·left;simp[lookup_cons,hx]
   ·right;simp[lookup_cons,hx]
  |false=>
   simp only[lookup_cons,hx]at h;by_cases hc:(k==NameKind.free&&env.scope.kind==.function&&env.kindOf n==some .cell)=true
   ·rw[if_pos hc];simp only[lookup_cons,hx];exact ih h
   ·rw[if_neg hc];simp only[lookup_cons,hx];exact ih h
section
variable{X:Cx}
theorem KG{x:Str}{px:Pos}{iter elt:Expr}{ifs:List Expr}{scope:Scope}{pos pos':Pos}{wi:TI}{tt:TT}{te:TE}{caps:List Nat}{ns:List Str}{use:Option (Value->Sem Unit)}{Q:Value->Shared->Prop}
  {pins:List (Addr×Obj)}{s:Shared}{σ:St}{H:Hp}{R:List V->Hp->Prop}
  (CS:CompScope X.N X.env.scope scope x caps ns)(hc:X.calm=true)(hi:PI X (.Name x px) iter wi)
  (ht:∀cl C s H fp,PTs (X.comp (x::ns) scope cl C s H fp) ifs tt)(he:∀cl C s H fp,PE (X.comp (x::ns) scope cl C s H fp) elt te)
  (hs:∀v,foldedSetIterable iter X.env v=pure v)
  (I:Inv X pins σ H s)(h:YO wi caps tt te σ H R)
  (hend:∀D C s' H' ys,Inv X pins σ (upd H' D (.lst ys)) s'->H' D=none->R ys H'->(∃m,s'.heap.Ns C m)->(upd H' D (.lst ys)) C=none->C≠X.env.locals->X.s₀.heap.objs.size<=C->(∀y c,X.env.cells.lookup y=some c->c≠C)->(∀p∈X.pn++pins,p.1≠C)->
   compPost (model X.prog X.w) X.A X.xe use Q (.ref D) C (.ok .next) s'):
  wpAny (model X.prog X.w) X.A (comprehension (.ListComp elt [⟨.Name x px,iter,ifs,0⟩] scope pos) scope X.env pos' (newList []) false (eval iter X.env) use) Q X.xe s:=by
 have hcells:∀y∈scope.names,y.2=.free->∃c,X.env.cells.lookup y.1=some c:=λy hy hf=>I.ok.has y.1 (CS.free y hy hf);refine wpAny_comprehension_free (use:=use) rfl hs (BG hcells) CS.kind CS.names ?_;refine thn (hi pins s σ H _ I h) λv s1 h1=>thn h1 λitv s2 h2=> ?_;obtain⟨it,fp,tn,J,H2,e,I2,T,st2,f2,W,⟨m0,w0⟩,turn⟩:=h2;subst e;refine wpAny_newObj_type (wpAny_newFunctionEnv CS.cell (by intro y hy;simp at hy) (λh₁ hns₁ hsb₁=> ?_) CS.kind)
 dsimp only at hns₁ hsb₁⊢
 generalize hHH:s2.heap.push {cls:=.type "list",dict:=none,data:=.seq ([]:List Value).toArray}=HH at hns₁ hsb₁⊢;have hC:HH.objs.size=s2.heap.objs.size+1:=by rw[<-hHH,Heap.size_push]
 generalize hCe:HH.objs.size=C at hns₁ hsb₁ hC⊢;have hDC:s2.heap.objs.size≠C:=by rw[hC];exact ne_of_lt (Nat.lt_succ_self _)
 have below:∀b,b<s2.heap.objs.size->b≠C/\b≠s2.heap.objs.size:=λb hb=>⟨by rw[hC];exact ne_of_lt (lt_succ_of_lt hb),ne_of_lt hb⟩;have old:∀b o,s2.heap.get? b=some o->h₁.get? b=some o:=λb o e=>hsb₁.extBut b o (below b (lt_size e)).1 (gZ _ (hHH▸gZ _ e));have hacc:h₁.get? s2.heap.objs.size=some (LCg.lst []):=hsb₁.extBut _ _ hDC (gZ _ (hHH▸get?_push_size _ rfl));have nfp:∀b∈fp,b<s2.heap.objs.size:=λb hb=>let⟨o,e,_⟩:=T.obj _ _ st2 b hb;lt_size e;have clsub:∀y c,(BN X.env.cells scope.names []).lookup y=some c->X.env.cells.lookup y=some c:=λy c e=>by
  rcases IM scope.names [] (y,c) hcells (PySem.mem_of_lookup e)with q|q
  ·cases q
  ·exact q.1
 have fresh2:∀a,s2.heap.objs.size<=a->H2 a=none:=λa ha=>I2.hok.fresh ha;generalize hcl:BN X.env.cells scope.names []=cl at clsub⊢;have clhas:∀y,(y,NameKind.free)∈scope.names->∃c,cl.lookup y=some c:=λy hy=>by
  obtain⟨c,q⟩:=IN (cells:=X.env.cells) scope.names [] y (.inl hy);rw[hcl]at q;obtain⟨d,q1,_⟩:=AD q;exact⟨d,q1⟩
 have ltC:∀y c,X.env.cells.lookup y=some c->c<s2.heap.objs.size:=λy c e=>let⟨v,z⟩:=I2.cell y c e;z.lt;have ok':(X.comp (x::ns) scope cl C s2 H2 fp).Ok:=by
  refine⟨I2.ok.mod,CS.kind,I2.ok.glob,I2.ok.blt,(by show s2.heap.objs.size<=C;rw[hC];exact le_succ _),λy z c a b=>I2.ok.inj y z c (clsub y c a) (clsub z c b),λy hy=>clhas y (BP hy CS.cell),λy c z=>(by cases z),I2.ok.hd,I2.ok.frames,.inl rfl,
   λb hb=>⟨(below b (nfp b hb)).1,λy c e z=>(f2 b hb).2.2.2.2.1 y c (clsub y c e) z⟩,λb o e=>I2.bs b o e,Nat.le_trans I2.ok.bsz I2.sz,λb o e hb=> ?_,λb hb hf=> ?_,I2.stack,I2.stkFree⟩
  ·rcases(f2 b hb).2.2.2.1 with z|z
   ·exact I2.ok.noex b o e z
   ·exact absurd (lt_of_lt_of_le (lt_size e) (Nat.le_trans I2.ok.bsz z)) (lt_irrefl _)
  ·rcases cZ (I2.stkSub b hf)with z|z
   ·exact(f2 b hb).2.1 z
   ·exact(f2 b hb).2.2.1 z
 have capget:∀(k:Nat) (y:Str) (v:V),(x::ns)[k]? =some y->(capσ caps σ none)[k]? =some (some v)->∃j,X.N[j]? =some y/\σ[j]? =some (some v)/\scope.names.lookup y=some .free:=λk y v e1 e2=>by
  cases k with
  |zero=>cases e2
  |succ k=>
   have e1':ns[k]? =some y:=by simpa using e1
   have e2':(caps.map λj=>(σ[j]?).getD none)[k]? =some (some v):=by simpa [capσ]using e2
   have e3:(ns.map some)[k]? =some (some y):=by rw[getElem?_map,e1'];rfl
   rw[<-CS.at_,getElem?_map]at e3;rw[getElem?_map]at e2';cases hj:caps[k]? with
   |none=>rw[hj]at e3;cases e3
   |some j=>
    rw[hj]at e3 e2';have e4:X.N[j]? =some y:=Option.some.inj e3;have e5:(σ[j]?).getD none=some v:=Option.some.inj e2';refine⟨j,e4, ?_,CS.nsf y (mem_of_getElem? e1')⟩;cases hσ:σ[j]? with
    |none=>rw[hσ]at e5;cases e5
    |some z=>rw[hσ]at e5;have e6:z=some v:=e5;rw[e6]
 have visfree:∀y,scope.names.lookup y=some .free->X.env.kindOf y=some .cell\/X.env.kindOf y=some .free:=λy hy=>CS.free (y,.free) (PySem.mem_of_lookup hy) rfl;have I0:Inv (X.comp (x::ns) scope cl C s2 H2 fp) (pins++ [(s2.heap.objs.size,LCg.lst [])]) (capσ caps σ none) H2 {s2 with heap:=h₁,toks:=s2.toks+([]:List (Str×Value)).length}:=by
  obtain⟨m2,hn2,hl2⟩:=I2.loc;refine⟨ok',rfl,I2.bare,Un.kept old,⟨_,hns₁,λk y v e1 e2 e3=> ?_⟩,λy c e=> ?_,fresh2 C (by rw[hC];exact le_succ _),λy c e=>I2.freeC y c (clsub y c e),λp hp=> ?_,I2.hok.kept old, ?_⟩
  ·obtain⟨j,q1,q2,q3⟩:=capget k y v e1 e2;have vf:=visfree y q3;obtain⟨u,ru,lk⟩:=hl2 j y v q1 q2 (vf.elim (λz=> .inr (.inl z)) λz=> .inr (.inr z));refine⟨u,ru,.inr ⟨P9 q3, ?_⟩⟩;obtain⟨c,hcl'⟩:=clhas y (PySem.mem_of_lookup q3);refine⟨c,hcl', ?_⟩;rcases lk with⟨k1,_⟩|⟨_,c',e',z⟩
   ·rcases vf with vf|vf<;>(rw[k1]at vf;cases vf)
   ·have q:=clsub y c hcl';rw[e']at q;cases q;exact z.keeps old
  ·obtain⟨v,z⟩:=I2.cell y c (clsub y c e);exact⟨v,z.keeps old⟩
  ·rcases mem_append.mp hp with hp|hp
   ·obtain⟨a1,a2,a3,a4,a5⟩:=I2.pin p (mem_append_left _ hp);refine⟨old _ _ a1,a2,(below _ (lt_size a1)).1,λz=> ?_,a5⟩;rcases cZ (I2.stkSub _ z)with z|z
    ·exact a3 z
    ·exact a4 z
   ·rcases mem_append.mp hp with hp|hp
    ·obtain⟨a1,a2,a3,a4,a5⟩:=I2.pin p (mem_append_right _ hp);refine⟨old _ _ a1,a2,(below _ (lt_size a1)).1,λz=> ?_,a5⟩;rcases cZ (I2.stkSub _ z)with z|z
     ·exact a3 z
     ·exact a4 z
    ·have e:p=(s2.heap.objs.size,LCg.lst []):=by simpa using hp
     subst e;refine⟨hacc,fresh2 _ (Nat.le_refl _),hDC,λz=> ?_,λv z=>by cases z⟩;rcases cZ (I2.stkSub _ z)with z|z
     ·exact absurd I2.lt (by rw[<-z];exact lt_irrefl _)
     ·exact I2.nofs (Nat.le_refl _) z
  ·show(capσ caps σ none).length=(x::ns).length;have:=congrArg List.length CS.at_;simp only[length_map]at this;simp[capσ,this]
 have loop:∀s₃:Shared,s₃={s2 with heap:=h₁,toks:=s2.toks+([]:List (Str×Value)).length}->
   codeAny (model X.prog X.w) X.A (.compLoop (.ListComp elt [⟨.Name x px,iter,ifs,0⟩] scope pos) 0 (.ref it) (.ref s2.heap.objs.size) (compEnvC scope cl C X.env))
    (compPost (model X.prog X.w) X.A X.xe use Q (.ref s2.heap.objs.size) C) s₃:=by
  rintro s₃ rfl;refine codeAny_compLoop_tests (λn s'=>∃i ys us H',Inv (X.comp (x::ns) scope cl C s2 H2 fp) (pins++ [(s2.heap.objs.size,LCg.lst us)]) (capσ caps σ none) H' s'/\Vals ys us/\tn i s'.heap/\(∀b∈fp,H' b=none)/\W i n ys H') ?_ m0
   ⟨0,[],[],H2,I0,.nil,T.keep _ _ _ st2 (λb _ o e=>old b o e),λb hb=>(f2 b hb).1,w0⟩
  rintro n s3 ⟨i,ys,us,H3,I3,rv,st3,fr3,w3⟩;obtain⟨hle,hstep⟩:=turn i n ys H3 w3;have pinlt:∀p∈X.pn++pins,p.1<s2.heap.objs.size:=λp hp=>lt_size (I2.pin p hp).1;have stat:∀ {H':Hp},(∀b∈fp,H' b=none)->∀b∈fp,JD (X.comp (x::ns) scope cl C s2 H2 fp) (pins++ [(s2.heap.objs.size,LCg.lst us)]) H' b:=λhn b hb=>
   ⟨hn b hb,(below b (nfp b hb)).1,ok'.exfs b hb,.inl hb,λy c e z=>(f2 b hb).2.2.2.2.1 y c (clsub y c e) z,λp hp=>by
    rcases mem_append.mp hp with hp|hp
    ·exact(f2 b hb).2.2.2.2.2 p (mem_append_left _ hp)
    ·rcases mem_append.mp hp with hp|hp
     ·exact(f2 b hb).2.2.2.2.2 p (mem_append_right _ hp)
     ·have e:p=(s2.heap.objs.size,LCg.lst us):=by simpa using hp
      subst e;exact Ne.symm (below b (nfp b hb)).2⟩
  have memD:∀(l:List (Addr×Obj)),(s2.heap.objs.size,LCg.lst us)∈(X.comp (x::ns) scope cl C s2 H2 fp).pn++((pins++ [(s2.heap.objs.size,LCg.lst us)])++l):=λl=>
   mem_append_right _ (mem_append_left _ (mem_append_right _ mem_cons_self))
  rcases hstep with⟨stop,r⟩|⟨go,Nx,hNx,step⟩
  ·refine thn (T.done (X.comp (x::ns) scope cl C s2 H2 fp) rfl rfl rfl hc i _ s3 _ H3 _ I3 (stat fr3) st3 stop) λr' s4 ⟨hr,I4⟩=> ?_;subst hr;have pD:=I4.pin (s2.heap.objs.size,LCg.lst us) (mem_append_right _ (mem_append_right _ mem_cons_self));have hDn:H3 s2.heap.objs.size=none:=pD.2.1;have hCn:H3 C=none:=I4.free;have b4:Un (frs X.stack) fp H2 H3 s2.heap s4.heap:=I4.base;have u4:Un (frs X.stack) fp H2 (upd H3 s2.heap.objs.size (.lst ys)) s2.heap s4.heap:=
    ⟨b4.keep,b4.slot,λb o e n hx=>by rw[B9 (below b (lt_size e)).2];exact b4.free b o e n hx,b4.there,
     λb xs q=>by rw[B9 (C1 (b4.tups b xs q) hDn)];exact b4.tups b xs q,λb o u q=>by rw[B9 (C1 (b4.frzs b o u q) hDn)];exact b4.frzs b o u q,
     λb ps q=>by
      obtain⟨m1,e1⟩:=b4.tbls b ps q;exact⟨m1,by rw[B9 (C1 e1 hDn)];exact e1⟩⟩
   have k4:HOk X.prog X.w (upd H3 s2.heap.objs.size (.lst ys)) s4.heap:=λb u e=>by
    by_cases hb:b=s2.heap.objs.size
    ·subst hb;rw[A2]at e;cases e;exact⟨hle,us,_,rv,pD.1⟩
    ·rw[B9 hb]at e;exact(I4.hok b u e).stay (λc v _ q=>q) (λc q=>by rw[B9 (C1 q hDn)];exact q) λc xs q=>by rw[B9 (C1 q hDn)];exact q
   have J4:Inv X pins σ (upd H3 s2.heap.objs.size (.lst ys)) s4:=I2.call' (ch:=fp) I4.os u4 k4 I4.bare λb hb=>⟨(f2 b hb).2.2.2.1,(f2 b hb).2.1,(f2 b hb).2.2.2.2.1,(f2 b hb).2.2.2.2.2⟩;obtain⟨mC,hnC,_⟩:=I4.loc;exact hend _ C s4 H3 ys J4 hDn r ⟨mC,hnC⟩ (by rw[B9 (Ne.symm hDC)];exact hCn) (Ne.symm (below _ I2.lt).1) (by rw[hC];exact le_succ_of_le I2.sz) (λy c e=>(below c (ltC y c e)).1) λp hp=>(below _ (pinlt p hp)).1
  ·refine thn (T.item (X.comp (x::ns) scope cl C s2 H2 fp) rfl rfl rfl hc i _ s3 _ H3 _ I3 (stat fr3) st3 go) λr' s4 ⟨u,hr,h4⟩=> ?_;subst hr;refine LU h4 λ⟨v,H5,I5,r5,y5,st5,fr5⟩=> ?_;have I5':=I5.pinned (stat fr5) (T.obj _ _ st5);refine wpAny_assign_Name (IC (X:=X.comp (x::ns) scope cl C s2 H2 fp) (i:=0) I5' CS.nd rfl (.inl (lookup_relabel_local CS.var)) r5 (λs6 I6=> ?_) (.inr (lookup_relabel_local CS.var)));have I6':Inv (X.comp (x::ns) scope cl C s2 H2 fp) ((pins++ [(s2.heap.objs.size,LCg.lst us)])++DR fp s4.heap) (capσ caps σ (some v)) H5 s6:=I6;refine wpAny_mono (ht cl C s2 H2 fp _ s6 _ H5 _ I6' (step v H5 y5)) (λb s7 ⟨H7,I7,q7⟩=> ?_) (λ_ _ e=>e.elim);have weak:∀ {H':Hp} {s':Shared} {pl:List (Addr×Obj)},Inv (X.comp (x::ns) scope cl C s2 H2 fp) pl (capσ caps σ (some v)) H' s'->Inv (X.comp (x::ns) scope cl C s2 H2 fp) pl (capσ caps σ none) H' s':=λ{H' s' pl} J'=>
    J'.weak rfl λk z e=>by
     cases k with
     |zero=>cases e
     |succ k=>exact e
   have keepT:∀ {H':Hp} {s':Shared},Inv (X.comp (x::ns) scope cl C s2 H2 fp) ((pins++ [(s2.heap.objs.size,LCg.lst us)])++DR fp s4.heap) (capσ caps σ (some v)) H' s'->tn (i+1) s'.heap/\∀b∈fp,H' b=none:=λ{H' s'} J'=>by
    refine⟨T.keep _ _ _ st5 λb hb o e=>(J'.pin (b,o) (mem_append_right _ (mem_append_right _ (T7 hb e)))).1,λb hb=> ?_⟩;obtain⟨o,e,d⟩:=T.obj _ _ st5 b hb;exact(J'.pin (b,o) (mem_append_right _ (mem_append_right _ (T7 hb e)))).2.1
   cases b with
   |false=>
    rw[if_neg nZ]at q7⊢;obtain⟨m',hm,w7⟩:=hNx _ _ q7;exact⟨m',hm,i+1,ys,us,H7,weak I7.unpinned,rv,(keepT I7).1,(keepT I7).2,w7⟩
   |true=>
    rw[if_pos rfl]at q7⊢;refine wpAny_mono (he cl C s2 H2 fp _ s7 _ H7 _ I7 q7) (λyv s8 ⟨y,H8,I8,ry,n8⟩=> ?_) (λ_ _ e=>e.elim);obtain⟨m',hm,w8⟩:=hNx _ _ n8;have pD:=I8.pin (s2.heap.objs.size,LCg.lst us) (memD _);have hul:us.length=ys.length:=rv.length.symm;refine append_at (hsz:=by show us.toArray.size<=sizeLine;rw[size_toArray,hul];exact hle) pD.1 λh9 hs9 hD9=> ?_;have I8p:Inv (X.comp (x::ns) scope cl C s2 H2 fp) pins (capσ caps σ none) H8 s8:=weak I8.unpinned.unpinned;have I9:Inv (X.comp (x::ns) scope cl C s2 H2 fp) pins (capσ caps σ none) H8 {s8 with heap:=h9}:=I8p.turned (t':=s8.toks) (it:=s2.heap.objs.size) (λb o hb e=>(hs9.2 b hb).trans e) pD.2.1 hDC (.inr (Nat.le_refl _)) (λy c e z=>ne_of_lt (ltC y c (clsub y c e)) z) λp hp=>ne_of_lt (pinlt p hp);have I9':Inv (X.comp (x::ns) scope cl C s2 H2 fp) (pins++ [(s2.heap.objs.size,LCg.lst (us++ [yv]))]) (capσ caps σ none) H8 {s8 with heap:=h9}:=I9.pins_of λp hp=>by
     rcases mem_append.mp hp with hp|hp
     ·exact I9.pin p (mem_append_right _ hp)
     ·have e:p=(s2.heap.objs.size,LCg.lst (us++ [yv])):=by simpa using hp
      subst e;exact⟨hD9.trans (congrArg some (LCg.lst_snoc us yv)),pD.2.1,hDC,pD.2.2.2.1,λv z=>by cases z⟩
    refine⟨m',hm,i+1,ys++ [y],us++ [yv],H8,I9',rv.append (.cons ry .nil), ?_,(keepT I8).2,w8⟩;exact T.keep _ _ _ (keepT I8).1 λb hb o e=>(hs9.2 b (below b (nfp b hb)).2).trans e
 exact codeAny_compStart_list (loop _ rfl) (T.self X.A 0 _ _ _ (T.keep _ _ _ st2 (λb _ o e=>old b o e)) (loop _ rfl))
theorem EM{K:FZ}{a:Addr}{xs:List V}{caps:List Nat}{tt:TT}{te:TE}{σ:St}{H:Hp}{R:List V->Hp->Prop}(Pv:Nat->List V->Hp->Prop)(h0:Pv 0 [] H)(hl:∀i ys H,i<=xs.length->Pv i ys H->SqT K H a xs/\ys.length<=sizeLine)
  (hs:∀i x ys H,xs[i]? =some x->Pv i ys H->tt (capσ caps σ (some x)) H λb H2=>if b=true then te (capσ caps σ (some x)) H2 λy H3=>Pv (i+1) (ys++ [y]) H3 else Pv (i+1) ys H2)(hd:∀ys H,Pv xs.length ys H->R ys H):
  ∃W:Nat->Nat->List V->Hp->Prop,(∃m,W 0 m [] H)/\∀i m ys H,W i m ys H->ys.length<=sizeLine/\(((Itt K a).stop i H/\R ys H)\/((Itt K a).go i H/\∃N:List V->Hp->Prop,(∀ys' H',N ys' H'->∃m',m'<m/\W (i+1) m' ys' H')/\∀v H',(Itt K a).yld i H v H'->
   tt (capσ caps σ (some v)) H' λb H2=>if b=true then te (capσ caps σ (some v)) H2 λy H3=>N (ys++ [y]) H3 else N ys H2)):=by
 refine⟨λi m ys H=>m=xs.length - i/\i<=xs.length/\Pv i ys H,⟨xs.length,by simp,zero_le _,h0⟩, ?_⟩;rintro i m ys H ⟨rfl,hi,p⟩;obtain⟨q,hz⟩:=hl i ys H hi p;refine⟨hz, ?_⟩;by_cases hlt:i<xs.length
 ·refine .inr ⟨⟨xs,xs[i],q,by simp[hlt]⟩,Pv (i+1),λys' H' p'=>⟨xs.length - (i+1),by omega,rfl,hlt,p'⟩,λx H' y=> ?_⟩;obtain⟨e,y⟩:=y;subst e;exact hs i x ys _ (y xs q) p
 ·have e:i=xs.length:=by omega
  subst e;exact .inl ⟨⟨xs,q,Nat.le_refl _⟩,hd ys H p⟩
theorem X2{K:FZ}{a:Addr}{xs:List V}{caps:List Nat}{tt:TT}{te:TE}{σ:St}{H:Hp}{R:List V->Hp->Prop}(Pv:Nat->List V->Hp->Prop)(h0:Pv 0 [] H)(hl:∀i ys H,i<=xs.length->Pv i ys H->SqL K H a xs/\ys.length<=sizeLine)
  (hs:∀i x ys H,xs[i]? =some x->Pv i ys H->tt (capσ caps σ (some x)) H λb H2=>if b=true then te (capσ caps σ (some x)) H2 λy H3=>Pv (i+1) (ys++ [y]) H3 else Pv (i+1) ys H2)(hd:∀ys H,Pv xs.length ys H->R ys H):
  ∃W:Nat->Nat->List V->Hp->Prop,(∃m,W 0 m [] H)/\∀i m ys H,W i m ys H->ys.length<=sizeLine/\(((Itl K a).stop i H/\R ys H)\/((Itl K a).go i H/\∃N:List V->Hp->Prop,(∀ys' H',N ys' H'->∃m',m'<m/\W (i+1) m' ys' H')/\∀v H',(Itl K a).yld i H v H'->
   tt (capσ caps σ (some v)) H' λb H2=>if b=true then te (capσ caps σ (some v)) H2 λy H3=>N (ys++ [y]) H3 else N ys H2)):=by
 refine⟨λi m ys H=>m=xs.length - i/\i<=xs.length/\Pv i ys H,⟨xs.length,by simp,zero_le _,h0⟩, ?_⟩;rintro i m ys H ⟨rfl,hi,p⟩;obtain⟨q,hz⟩:=hl i ys H hi p;refine⟨hz, ?_⟩;by_cases hlt:i<xs.length
 ·refine .inr ⟨⟨xs,xs[i],q,by simp[hlt]⟩,Pv (i+1),λys' H' p'=>⟨xs.length - (i+1),by omega,rfl,hlt,p'⟩,λx H' y=> ?_⟩;obtain⟨e,y⟩:=y;subst e;exact hs i x ys _ (y xs q) p
 ·have e:i=xs.length:=by omega
  subst e;exact .inl ⟨⟨xs,q,Nat.le_refl _⟩,hd ys H p⟩
theorem P1{lo:Int}{n:Nat}{caps:List Nat}{tt:TT}{te:TE}{σ:St}{H:Hp}{R:List V->Hp->Prop}(Pv:Nat->List V->Hp->Prop)(h0:Pv 0 [] H)(hl:∀i ys H,i<=n->Pv i ys H->ys.length<=sizeLine)
  (hs:∀i ys H,i<n->Pv i ys H->tt (capσ caps σ (some (.int (lo+i)))) H λb H2=>if b=true then te (capσ caps σ (some (.int (lo+i)))) H2 λy H3=>Pv (i+1) (ys++ [y]) H3 else Pv (i+1) ys H2)(hd:∀ys H,Pv n ys H->R ys H):
  ∃W:Nat->Nat->List V->Hp->Prop,(∃m,W 0 m [] H)/\∀i m ys H,W i m ys H->ys.length<=sizeLine/\(((Itr lo n).stop i H/\R ys H)\/((Itr lo n).go i H/\∃N:List V->Hp->Prop,(∀ys' H',N ys' H'->∃m',m'<m/\W (i+1) m' ys' H')/\∀v H',(Itr lo n).yld i H v H'->
   tt (capσ caps σ (some v)) H' λb H2=>if b=true then te (capσ caps σ (some v)) H2 λy H3=>N (ys++ [y]) H3 else N ys H2)):=by
 refine⟨λi m ys H=>m=n - i/\i<=n/\Pv i ys H,⟨n,by simp,zero_le _,h0⟩, ?_⟩;rintro i m ys H ⟨rfl,hi,p⟩;refine⟨hl i ys H hi p, ?_⟩;by_cases hlt:i<n
 ·refine .inr ⟨hlt,Pv (i+1),λys' H' p'=>⟨n - (i+1),by omega,rfl,hlt,p'⟩,λx H' y=> ?_⟩;obtain⟨e,y⟩:=y;subst e y;exact hs i ys _ hlt p
 ·have e:i=n:=by omega
  subst e;exact .inl ⟨Nat.le_refl _,hd ys H p⟩
theorem U2{x:Str}{px:Pos}{iter elt:Expr}{ifs:List Expr}{scope sc:Scope}{N:List Str}{pos:Pos}{wi:TI}{tt:TT}{te:TE}{caps:List Nat}{ns:List Str}
  (CS:CompScope N sc scope x caps ns)(hN':X.N=N)(hsc:X.env.scope=sc)(hc:X.calm=true)(hi:PI X (.Name x px) iter wi)
  (ht:∀cl C s H fp,PTs (X.comp (x::ns) scope cl C s H fp) ifs tt)(he:∀cl C s H fp,PE (X.comp (x::ns) scope cl C s H fp) elt te)
  (hs:∀v,foldedSetIterable iter X.env v=pure v:=by intro _;rfl):
  PE X (.ListComp elt [⟨.Name x px,iter,ifs,0⟩] scope pos) (aRZ wi caps tt te):=by
 intro pins s σ H Q I h;subst hN';subst hsc;rw[eval_ListComp];refine KG CS hc hi ht he hs I h ?_;rintro D C s' H' ys I' hD r ⟨m,hn⟩ c1 c2 c3 c4 c5;exact⟨m,hn,λh' hs'=>⟨.ref D,_,I'.turned (t':=s'.toks) (λb o hb e=>(hs'.2 b hb).trans e) c1 c2 (.inr c3) c4 c5,rfl,r D hD⟩⟩
theorem N2{i:Nat}{x y:Str}{px py:Pos}{iter elt:Expr}{ifs:List Expr}{scope sc:Scope}{N:List Str}{pos spos:Pos}{wi:TI}{tt:TT}{te:TE}{caps:List Nat}{ns:List Str}(hN:X.N.Nodup)(hi:X.N[i]? =some y)
  (hy:X.env.scope.names.lookup y=some .local)(CS:CompScope N sc scope x caps ns)(hN':X.N=N)(hsc:X.env.scope=sc)(hc:X.calm=true)(hit:PI X (.Name x px) iter wi)
  (ht:∀cl C s H fp,PTs (X.comp (x::ns) scope cl C s H fp) ifs tt)(he:∀cl C s H fp,PE (X.comp (x::ns) scope cl C s H fp) elt te)
  (hsw:swapsWith (.ListComp elt [⟨.Name x px,iter,ifs,0⟩] scope pos) (some (.Name y py)) spos.line X.env=pure true:=by rfl)
  (hs:∀v,foldedSetIterable iter X.env v=pure v:=by intro _;rfl):
  PS X (.Assign [.Name y py] (.ListComp elt [⟨.Name x px,iter,ifs,0⟩] scope pos) spos) (XJ (aRZ wi caps tt te) (GD i)):=by
 intro pins s σ H D I h;subst hN';subst hsc;rw[exec_Assign_Name_used _ _ _ _ hsw];refine bZ (wpAny_standAt (bZ ?_));show wpAny _ X.A (do let _<-comprehension (.ListComp elt [⟨.Name x px,iter,ifs,0⟩] scope pos) scope X.env _ (newList []) false (eval iter X.env) (some (assign (.Name y py) X.env))) _ _ s;refine bZ (wpAny_mono (KG (use:=some (assign (.Name y py) X.env)) (Q:=λ_ s'=>SP X pins D .next s') CS hc hit ht he hs I h ?_) (λ_ s' hq=>pZ (pZ hq)) λ_ _ e=>e);rintro D' C s' H' ys I' hD r ⟨m,hn⟩ c1 c2 c3 c4 c5;show wpAny _ _ (assign (.Name y py) X.env (.ref D')) _ _ s';refine wpAny_assign_Name (JP (v:=.ref D') I' hN hi (.inl hy) rfl (λs'' I'' ⟨a,sb,ha⟩=> ?_) (.inr hy));have hCa:C≠a:=by
  rcases ha with e|e
  ·rw[e];exact c2
  ·exact Ne.symm (c4 y a e)
 exact⟨m,hn.sameBut sb hCa,λh' hs'=>⟨_,_,I''.turned (t':=s''.toks) (λb o hb e=>(hs'.2 b hb).trans e) c1 c2 (.inr c3) c4 c5,r D' hD⟩⟩
end
theorem YV:bootBuiltins "len"=some (.builtin "len"):=by decide +kernel
theorem E1:bootBuiltins "isinstance"=some (.builtin "isinstance"):=by decide +kernel
theorem WD:bootBuiltins "abs"=some (.builtin "abs"):=by decide +kernel
theorem WW:bootBuiltins "all"=some (.builtin "all"):=by decide +kernel
theorem JL:bootBuiltins "sorted"=some (.builtin "sorted"):=by decide +kernel
theorem U4:bootBuiltins "list"=some (.type "list"):=by decide +kernel
theorem M6:bootBuiltins "tuple"=some (.type "tuple"):=by decide +kernel
theorem FY:bootBuiltins "int"=some (.type "int"):=by decide +kernel
theorem QU:bootBuiltins "bool"=some (.type "bool"):=by decide +kernel
theorem YY:bootBuiltins "str"=some (.type "str"):=by decide +kernel
theorem QV:bootBuiltins "dict"=some (.type "dict"):=by decide +kernel
section
variable{X:Cx}
theorem op_mul_str:OpR X (binaryOp .Mult) (λx y H Q=>∃i n,x=.str i/\y=.int n/\0<=n/\n<=16777216/\i.length*n.toNat<=16777216/\Q (.str (Txt.mul i n)) H):=by
 intro pins s σ H x y v u Q I rx ry h;obtain⟨i,n,rfl,rfl,h0,h1,h2,q⟩:=h;obtain⟨t,rfl⟩:=rx;obtain⟨t',rfl⟩:=ry;exact SB.mul (mulOk_of i.length n.toNat (Nat.le_refl _) (by omega) (by omega) (by omega) h2) λt'' k=>⟨.str _,H,I.tok _,⟨_,rfl⟩,q⟩
theorem HW{ys:List Str}:∀ {us:List Value},Vals (ys.map V.str) us->StrsAre us ys:=by
 induction ys with
 |nil=>intro us r;cases r;exact .nil
 |cons y ys ih=>
  intro us r;cases r with
  |cons r1 r2=>
   obtain⟨t,rfl⟩:=r1;exact .cons y t (ih r2)
noncomputable def WE(K:FZ):V->List V->Hp->VK->Prop:=λx vs H Q=>∃(z:Str) (p:Addr) (ys:List Str),x=.str z/\vs=[.ref p]/\(SqL K H p (ys.map V.str)\/SqT K H p (ys.map V.str))/\(ys.map (·.length)).sum+ys.length*z.length<=16777216/\Q (.str (Txt.join z ys)) H
theorem akZ:MtR X "str.join" (WE X.K):=by
 intro pins s σ H x vs v us Q I rx rv h;obtain⟨z,p,ys,rfl,rfl,hS,hz,q⟩:=h;obtain⟨t,rfl⟩:=rx;obtain⟨u,rfl,ru⟩:=BD rv;cases ru;rcases hS with hS|hS
 ·obtain⟨its,r,pl,_⟩:=I.list hS;exact join_list pl.isList (by simpa using HW r) hz λt' k=>⟨.str _,H,I.tok _,⟨_,rfl⟩,q⟩
 ·obtain⟨its,r,pl,_⟩:=I.tuple hS;exact join_tuple pl (by simpa using HW r) hz λt' k=>⟨.str _,H,I.tok _,⟨_,rfl⟩,q⟩
noncomputable def QH:V->Bool
 | .byt _=>false
 | .flt _=>false
 |_=>true
theorem TZ{A:Around}{s:Shared}{x:V}{u v:Value}(r:RelV x u)(r':RelV x v)(hx:QH x=true):SeqAt.EqAt A s u v true:=by
 cases x with
 |non=>cases r;cases r';exact SeqAt.EqAt.same _
 |bl b=>cases r;cases r';exact SeqAt.EqAt.same _
 |int i=>
  obtain⟨t,rfl⟩:=r;obtain⟨t',rfl⟩:=r';have:=SeqAt.EqAt.int_int (A:=A) (s:=s) i t i t'
  simpa using this
 |str i=>
  obtain⟨t,rfl⟩:=r;obtain⟨t',rfl⟩:=r';have:=SeqAt.EqAt.str_str (A:=A) (s:=s) i t i t'
  simpa using this
 |ref a=>cases r;cases r';exact SeqAt.EqAt.same _
 |ty n=>cases r;cases r';exact SeqAt.EqAt.same _
 |byt b=>cases hx
 |flt b=>cases hx
theorem KE{A:Around}{s:Shared}{xs:List V}{us vs:List Value}(r:Vals xs us)(r':Vals xs vs)(hx:xs.all QH=true)(j:Nat)(h1:j<us.toArray.size)(h2:j<vs.toArray.size):SeqAt.EqAt A s us.toArray[j] vs.toArray[j] true:=by
 have hj:j<xs.length:=by rw[r.length];simpa using h1
 obtain⟨u,hu,ru⟩:=r.get (i:=j) (x:=xs[j]) (by simp[hj]);obtain⟨v,hv,rv⟩:=r'.get (i:=j) (x:=xs[j]) (by simp[hj]);have e1:us.toArray[j]=u:=by
  have:us[j]? =some us.toArray[j]:=by simp
  rw[hu]at this;exact(Option.some.inj this).symm
 have e2:vs.toArray[j]=v:=by
  have:vs[j]? =some vs.toArray[j]:=by simp
  rw[hv]at this;exact(Option.some.inj this).symm
 rw[e1,e2];have hp:=all_eq_true.mp hx xs[j] (getElem_mem hj);exact TZ ru rv hp
inductive rEqL (K:FZ) (k:Bool) (x:V) (y:V) (H:Hp) (Q:VK):Prop
 |mk:∀a b xs,(x=.ref a)->(y=.ref b)->(SqL K H a xs)->(SqL K H b xs)->(xs.all QH=true)->(Q (.bl k) H)->rEqL K k x y H Q
theorem bYZ(hu:X.A.units<cLine):OpR X (compareOp .Eq) (rEqL X.K true):=by
 intro pins s σ H x y v u Q I rx ry h;obtain⟨a,b,xs,rfl,rfl,ha,hb,hp,q⟩:=h;cases rx;cases ry;obtain⟨its,r,pl,_⟩:=I.list ha;obtain⟨its2,r2,pl2,_⟩:=I.list hb;have hl:its.length=its2.length:=by rw[<-r.length,<-r2.length]
 refine SeqAt.eq_listAt (e:=λ_=>true) pl.isList pl2.isList (by simpa using hl) hu (λj h1 h2=>KE r r2 hp j h1 h2) ⟨.bl true,H,I, ?_,q⟩;have:((List.range its.toArray.size).all λ_=>true)=true:=by simp
 rw[this];rfl
theorem b1Z(hu:X.A.units<cLine):OpR X (compareOp .NotEq) (rEqL X.K false):=by
 intro pins s σ H x y v u Q I rx ry h;obtain⟨a,b,xs,rfl,rfl,ha,hb,hp,q⟩:=h;cases rx;cases ry;obtain⟨its,r,pl,_⟩:=I.list ha;obtain⟨its2,r2,pl2,_⟩:=I.list hb;have hl:its.length=its2.length:=by rw[<-r.length,<-r2.length]
 refine SeqAt.RcNeAt.lists (e:=λ_=>true) pl.isList pl2.isList (by simpa using hl) hu (λj h1 h2=>KE r r2 hp j h1 h2) X.prog X.w X.xe _ ⟨.bl false,H,I, ?_,q⟩;have:((List.range its.toArray.size).all λ_=>true)=true:=by simp
 rw[this];rfl
inductive rIsi (K:FZ) (xs:List V) (H:Hp) (Q:VK):Prop
 |mk:∀x c t b,(xs=[x,.ty c])->(TyOf K H x t)->(kitOne K t (.type c)=some b)->(Q (.bl b) H)->rIsi K xs H Q
theorem US:S7 X (.builtin "isinstance") (rIsi X.K):=by
 intro pins s σ H xs us Q I r h;obtain⟨x,c,t,b,rfl,ty,hk,q⟩:=h;obtain⟨u,v,rfl,ru,rv⟩:=VH r;cases rv;exact UE I ru ty hk λtk=>⟨.bl b,H,I.tok _,rfl,q⟩
structure TopD (w:World) (K:FZ) (a:Addr) (kvs:List (Str×V)):Prop where
 ex:∃(es:Array DictEntry) (n:Nat),K.lookup a=some ⟨.type "dict",none,.dict es n, #[]⟩/\PySem.W.KeysLit w.params es.toList/\Paired (λ(p:Str×V) (e:DictEntry)=>(∃t,e.key=.str p.1 t)/\RelV p.2 e.val) kvs es.toList
 lo:(a==sysModules)=false
theorem GK{x:Str}:∀ {kvs:List (Str×V)} {es:List DictEntry},Paired (λ(p:Str×V) (e:DictEntry)=>(∃t,e.key=.str p.1 t)/\RelV p.2 e.val) kvs es->
  RelO (kvs.lookup x) ((es.find? λe=>Value.isStrOf x e.key).map (·.val))
 |_,_,.nil=>trivial
 |(k,v)::kvs,e::es,.cons ⟨⟨t,hk⟩,rv⟩ r=>by
  have hk':e.key=.str k t:=hk;rw[lookup_cons,find?_cons,hk'];by_cases hx:x=k
  ·subst hx;have h1:Value.isStrOf x (.str x t)=true:=by simp[Value.isStrOf]
   rw[h1,beq_self_eq_true];exact rv
  ·have h1:Value.isStrOf x (.str k t)=false:=by
    cases h:Value.isStrOf x (.str k t)with
    |false=>rfl
    |true=>
     obtain⟨t',e'⟩:=Value.isStrOf_shape (x:=x) (v:=.str k t) h;injection e' with e1 _
     exact absurd e1.symm hx
   have h2:(x==k)=false:=beq_eq_false_iff_ne.mpr hx;rw[h1,h2];exact GK r
theorem TopD.map{w:World}{K:FZ}{a:Addr}{kvs:List (Str×V)}(T:TopD w K a kvs){prog:Program}{h:Heap}(KX:K.In h):
  ∃f:Str->Option Value,h.MapOf (strKind prog w) a f/\∀x,RelO (kvs.lookup x) (f x):=by
 obtain⟨es,n,hl,hk,hp⟩:=T.ex;refine⟨λk=>findBy Value.isStrOf es k,PySem.W.mapOf_K KX hl hk,λx=> ?_⟩;have q:=GK (x:=x) hp;show RelO (List.lookup x kvs) ((es.find? λe=>Value.isStrOf x e.key).map (·.val));rw[<-Array.find?_toList];exact q
inductive rIxTop (w:World) (K:FZ) (x:V) (y:V) (H:Hp) (Q:VK):Prop
 |mk:∀a k kvs v,(x=.ref a)->(y=.str k)->(TopD w K a kvs)->(kvs.lookup k=some v)->(Q v H)->rIxTop w K x y H Q
theorem bWZ:IxR X (rIxTop X.w X.K):=by
 intro value slice pins s σ H x y v u Q I rx ry h hs;obtain⟨a,k,kvs,z,rfl,rfl,T,hz,q⟩:=h;cases rx;obtain⟨t,rfl⟩:=ry;obtain⟨f,hm,hf⟩:=T.map (prog:=X.prog) I.kIn;have hr:=hf k;rw[hz]at hr;obtain⟨w',e,r⟩:=hr.some_of;exact tail_any hm.typeIs slot_dict_getitem.lookup (wpAny_getItem_of (strKind_is X.prog X.w k t) hm e ⟨z,H,I.tok _,r,q⟩) hs
theorem UL:OpR X (compareOp .In) (λx y H Q=>∃k a kvs,x=.str k/\y=.ref a/\TopD X.w X.K a kvs/\Q (.bl (kvs.lookup k).isSome) H):=by
 intro pins s σ H x y v u Q I rx ry h;obtain⟨k,a,kvs,rfl,rfl,T,q⟩:=h;cases ry;obtain⟨t,rfl⟩:=rx;obtain⟨f,hm,hf⟩:=T.map (prog:=X.prog) I.kIn;have hr:=hf k;have e:(f k).isSome=(kvs.lookup k).isSome:=by
  cases h1:kvs.lookup k with
  |none=>rw[h1]at hr;rw[hr.none_of];rfl
  |some z=>rw[h1]at hr;obtain⟨w',e,_⟩:=hr.some_of;rw[e];rfl
 exact wpAny_in_of (strKind_is X.prog X.w k t) T.lo hm ⟨.bl _,H,I.tok _,by rw[e];rfl,q⟩
theorem AC:OpR X (binaryOp .Add) (λx y H Q=>rI0 (λi j=> .int (i+j)) x y H Q\/(∃i j,x=.str i/\y=.str j/\i.length+j.length<=sizeLine/\Q (.str (i++j)) H)\/rCat x y H Q):=op_add.or (op_add_str.or ccZ)
theorem deZ:OpR X (binaryOp .Mult) (λx y H Q=>rI CMul (λi j=> .int (i*j)) x y H Q\/(∃i n,x=.str i/\y=.int n/\0<=n/\n<=16777216/\i.length*n.toNat<=16777216/\Q (.str (Txt.mul i n)) H)\/cVZ x y H Q):=op_mul.or (op_mul_str.or b4Z)
theorem uEq(hu:X.A.units<cLine):OpR X (compareOp .Eq) (λx y H Q=>rEq x y H Q\/rEqL X.K true x y H Q):=op_eq.or (bYZ hu)
theorem uNe(hu:X.A.units<cLine):OpR X (compareOp .NotEq) (λx y H Q=>rNe x y H Q\/rEqL X.K false x y H Q):=op_ne.or (b1Z hu)
theorem uIn:OpR X (compareOp .In) (λx y H Q=>(∃i j,x=.str i/\y=.str j/\Q (.bl (!(Builtin.Str.occurrences j i 0 j.length 1).isEmpty)) H)\/rIn X.K false x y H Q\/(∃k a kvs,x=.str k/\y=.ref a/\TopD X.w X.K a kvs/\Q (.bl (kvs.lookup k).isSome) H)):=op_in_str.or (op_in_seq.or UL)
theorem bUZ:IxR X (λx y H Q=>rIxL X.K x y H Q\/rIxT X.K x y H Q\/rIxS x y H Q\/rIxTop X.w X.K x y H Q):=ix_list.or (ix_tup.or (ix_str.or bWZ))
theorem bXZ:SlR X (λx lo hi H Q=>rSlL X.K x lo hi H Q\/rSlT X.K x lo hi H Q):=sl_list.or biZ
inductive tCut (t:TS) (D:Ends) (σ:St) (H:Hp):Prop
 |mk:∀R:St->Hp->Prop,(t {D with nx:=R} σ H)->(∀σ' H',R σ' H'->D.nx σ' H')->tCut t D σ H
theorem D7{st:Stmt}{t:TS}(h:PS X st t):PS X st (tCut t):=λpins s σ H D I ⟨R,q,hR⟩=>thn (h pins s σ H _ I q) λf s' hs=>by
 cases f with
 |next=>obtain⟨σ',H',I',r⟩:=hs;exact⟨σ',H',I',hR σ' H' r⟩
 |brk=>exact hs
 |cont=>exact hs
 |ret v=>exact hs
variable{K:FZ}{w:World}
theorem kEq(hu:X.A.units<cLine)(hK:X.K=K:=by rfl):OpR X (compareOp .Eq) (λx y H Q=>rEq x y H Q\/rEqL K true x y H Q):=by subst hK;exact uEq hu
theorem kNe(hu:X.A.units<cLine)(hK:X.K=K:=by rfl):OpR X (compareOp .NotEq) (λx y H Q=>rNe x y H Q\/rEqL K false x y H Q):=by subst hK;exact uNe hu
theorem kIn(hK:X.K=K:=by rfl)(hw:X.w=w:=by rfl):OpR X (compareOp .In) (λx y H Q=>(∃i j,x=.str i/\y=.str j/\Q (.bl (!(Builtin.Str.occurrences j i 0 j.length 1).isEmpty)) H)\/rIn K false x y H Q\/(∃k a kvs,x=.str k/\y=.ref a/\TopD w K a kvs/\Q (.bl (kvs.lookup k).isSome) H)):=by
 subst hK;subst hw;exact uIn
theorem kIx(hK:X.K=K:=by rfl)(hw:X.w=w:=by rfl):IxR X (λx y H Q=>rIxL K x y H Q\/rIxT K x y H Q\/rIxS x y H Q\/rIxTop w K x y H Q):=by subst hK;subst hw;exact bUZ
theorem kSl(hK:X.K=K:=by rfl):SlR X (λx lo hi H Q=>rSlL K x lo hi H Q\/rSlT K x lo hi H Q):=by subst hK;exact bXZ
theorem cDZ(hK:X.K=K:=by rfl):S7 X (.builtin "len") (rLen K):=by subst hK;exact YJ
theorem LS(hK:X.K=K:=by rfl):S7 X (.type "list") (λxs H Q=>∃p ys,xs=[.ref p]/\(SqL K H p ys\/SqT K H p ys)/\∀l,H l=none->Q (.ref l) (upd H l (.lst ys))):=by subst hK;exact LV
theorem AT(hK:X.K=K:=by rfl):S7 X (.type "tuple") (λxs H Q=>∃p ys,xs=[.ref p]/\((SqL K H p ys/\∀l,H l=none->Q (.ref l) (upd H l (.tup ys)))\/SqT K H p ys/\Q (.ref p) H)):=by subst hK;exact JA
theorem CC(hK:X.K=K:=by rfl):S7 X (.builtin "isinstance") (rIsi K):=by subst hK;exact US
theorem VG(hK:X.K=K:=by rfl):MtR X "str.join" (WE K):=by subst hK;exact akZ
variable{o e st l c:Expr}{es:List Expr}{to te ts tl:TE}{t:TA}{name:Str}{apos cpos pos p2:Pos}{T id:String}{r:V->List V->Hp->VK->Prop}{tg:Expr}
theorem XV(pa:PlainAttrs T)(slot:Slot T name id)(hty:typeOf (.builtin id)=pure (.type "method_descriptor"))(hm:MtR X id r)(ho:PE X o to)(hK:X.K=K:=by rfl)
  (hbase:attributeBase o name X.env (eval o X.env)=eval o X.env:=by rfl)(hline:(apos.endLine==cpos.line)=true:=by rfl):PE X (.Call (.Attribute o name apos) [] [] cpos) (clZ K T r to):=by
 subst hK;exact bKZ pa slot hty hm ho hbase hline
theorem aqZ(pa:PlainAttrs T)(slot:Slot T name id)(hty:typeOf (.builtin id)=pure (.type "method_descriptor"))(hm:MtR X id r)(ho:PE X o to)(ha:PA X (e::es) t)(hK:X.K=K:=by rfl)
  (hbase:attributeBase o name X.env (eval o X.env)=eval o X.env:=by rfl)
  (hfew:((backTo cpos (starEach (e::es) X.env)).all (λx=> !x.1)&&(backToKw cpos (keywordEach [] X.env)).all (λx=>x.1.isSome)
   &&decide ((e::es).length+([]:List Keyword).length+(if([]:List Keyword).isEmpty then 0 else 1)<30))=true:=by rfl)
  (hline:(apos.endLine==cpos.line)=true:=by rfl)(hs:starEach (e::es) X.env=(false,eval e X.env)::starEach es X.env:=by rfl)(hplain:(backTo cpos (starEach es X.env)).any (·.1)=false:=by rfl):
  PE X (.Call (.Attribute o name apos) (e::es) [] cpos) (tBM K T r to t):=by
 subst hK;exact c0Z pa slot hty hm ho ha hbase hfew hline hs hplain
theorem W8(hl:PE X l tl)(hK:X.K=K:=by rfl):PI X tg l (aFZ K tl):=by subst hK;exact aiZ hl
theorem DZ(hl:PE X l tl)(hK:X.K=K:=by rfl):PI X tg l (cpZ K tl):=by subst hK;exact b9Z hl
noncomputable def daZ(K:FZ)(ta:TE):TT:=fun σ H Q=>ta σ H λx H'=>∃k,byZ K x H' k/\Q k H'
theorem N5(ha:PE X e te)(he:∀whole,isTrue e X.env whole=(do let v<-whole;standAt e.pos;holding [v] (truthy v)))(hK:X.K=K:=by rfl):PT X e (daZ K te):=by subst hK;exact VL ha he
end
theorem T3{σ:St}{H:Hp}{A B:Hp->Prop}(h:A H):RF σ H (λb H2=>if b=true then A H2 else B H2):=by
 show if true=true then A H else B H
 rw[if_pos rfl];exact h
noncomputable def HR:List Expr->Option (List Str)
 | []=>some []
 | .Constant (.str x) _ _::r=>(HR r).map (x::·)
 |_=>none
noncomputable def cYZ(zs:List Str):TA:=λ_ H Q=>Q (zs.map V.str) H
theorem RE{X:Cx}:∀ {es:List Expr} {zs:List Str},HR es=some zs->PA X es (cYZ zs)
 | [],zs,h=>by
  have e:zs=[]:=by cases h;rfl
  subst e;exact A5
 |e::r,zs,h=>by
  have hx:∃x a b,e=.Constant (.str x) a b/\∃ys,HR r=some ys/\zs=x::ys:=by
   unfold HR at h;split at h
   ·rename_i h1;cases h1
   ·rename_i x a b r' h1;injection h1 with h1 h2
    subst h1;subst h2;cases q:HR r with
    |none=>rw[q]at h;cases h
    |some ys=>rw[q]at h;cases h;exact⟨x,a,b,rfl,ys,rfl,rfl⟩
   ·cases h
  obtain⟨x,a,b,rfl,ys,hr,rfl⟩:=hx;exact A0 A7 (RE hr)
theorem ET(xs:List V)(k:Nat):P3 xs (some (k:Int)) none=xs.drop k:=by
 unfold P3;rw[HT.sIx_nat,HT.sIx_none];by_cases h:k<=xs.length
 ·rw[min_eq_left h,take_of_length_le (by simp)]
 ·rw[min_eq_right (by omega),drop_eq_nil_of_le (Nat.le_refl _),drop_eq_nil_of_le (by omega)];simp
theorem PK(xs:List V)(k:Nat):P3 xs none (some (k:Int))=xs.take k:=by
 unfold P3;rw[HT.sIx_nat,HT.sIx_none];simp only[List.drop_zero,Nat.sub_zero];by_cases h:k<=xs.length
 ·rw[min_eq_left h]
 ·rw[min_eq_right (by omega),take_of_length_le (Nat.le_refl _),take_of_length_le (by omega)]
theorem XA(xs:List V)(a b:Nat):P3 xs (some (a:Int)) (some (b:Int))=(xs.drop a).take (b - a):=by
 unfold P3;rw[HT.sIx_nat,HT.sIx_nat];by_cases ha:a<=xs.length
 ·rw[min_eq_left ha];by_cases hb:b<=xs.length
  ·rw[min_eq_left hb]
  ·rw[min_eq_right (by omega),take_of_length_le (by simp),take_of_length_le (by simp;omega)]
 ·rw[min_eq_right (Nat.le_of_not_le ha),drop_eq_nil_of_le (Nat.le_refl _),drop_eq_nil_of_le (Nat.le_of_not_le ha)];simp
section
variable{M:Model}{A:Around}{E:Value->Shared->Prop}{s:Shared}
variable{X:Cx}{pins:List (Addr×Obj)}{σ:St}{H1 H2:Hp}{s1:Shared}{h1 h2:Heap}
end
section
variable{P:Program}{w:World}{K:FZ}{mg:Str->Option Value}{base:Heap}{N:List Str}{qual:Str}{scope:Scope}{f:Addr}{cd:Value}{A:Around}{outer:List Env}{s:Shared}{H:Hp}{E:XK}
 {pins:List (Addr×Obj)}{σ:St}{H1:Hp}{s1:Shared}
variable{h g:Heap}{a:Addr}{C:Value}
variable{fs:List Addr}{H1 H2:Hp}{h0 h1 h2:Heap}
variable{X:Cx}{pins:List (Addr×Obj)}{σ:St}{s1 s2:Shared}
end
section
variable{M:Model}{A:Around}{E:Value->Shared->Prop}{h:Heap}{g:Array GenState}{d:Drawn}{t:Nat}{os:OsState}
variable{X:Cx}{pins:List (Addr×Obj)}{σ:St}{H:Hp}{s:Shared}{e:Value}
variable{xe:Value->Shared->Prop}
end
noncomputable abbrev TEX:=St->Hp->VK->XK->Prop
noncomputable abbrev TSX:=Ends->(St->XK)->St->Hp->Prop
section
variable{X:Cx}{k:Nat}{f C:Addr}{fd:FuncData}{ps:List Str}{sp:Sp}{dvs:List V}{ds:List Value}{x m:Str}{p pos apos:Pos}{e o:Expr}{es:List Expr}{ta:TE}{t:TA}
end
section
variable{X:Cx}{e:Expr}{pos:Pos}{t:TEX}{st:Stmt}{rest:List Stmt}{a b:List Stmt}{ta tb:TSX}
variable{x n:Str}{np hpos:Pos}{body suite:List Stmt}{b₀:Stmt}{i:Nat}{ts:TS}{D0:Addr}{Ok:Addr->Prop}
end
section
variable{prog:Program}{w:World}{A:Around}{E:Value->Shared->Prop}{h:Heap}{g:Array GenState}{d:Drawn}{t:Nat}{os:OsState}{a C:Addr}{o:Obj}{bm bmB:List Value}{nid:String}
variable{X:Cx}{pins:List (Addr×Obj)}{σ:St}{H:Hp}{s:Shared}
variable{tg:Expr}
theorem SZ{bs:List Bool}{its:List Value}(r:Vals (bs.map V.bl) its){i:Nat}{v:Value}(e:its[i]? =some v):v=.bool (bs.getD i false):=by
 have hl:=r.length;obtain⟨hi,_⟩:=List.getElem?_eq_some_iff.mp e;have hb:i<bs.length:=by rw[length_map]at hl;omega
 have hx:(bs.map V.bl)[i]? =some (V.bl (bs.getD i false)):=by simp[hb]
 obtain⟨u,e2,ru⟩:=r.get hx;rw[e]at e2;cases e2;exact ru
theorem UF(bs:List Bool):((List.range bs.length).all λi=>bs.getD i false)=bs.all id:=by
 rw[Bool.eq_iff_iff,all_eq_true,all_eq_true];constructor
 ·intro h x hx;obtain⟨i,hi,e⟩:=List.getElem_of_mem hx;have:=h i (mem_range.mpr hi)
  simpa [List.getD_eq_getElem?_getD,List.getElem?_eq_getElem hi,e]using this
 ·intro h i hi;have hi:=mem_range.mp hi;have:=h bs[i] (getElem_mem hi)
  simpa [List.getD_eq_getElem?_getD,List.getElem?_eq_getElem hi]using this
theorem UD(hc:X.calm=true):S7 X (.builtin "all") (λxs H Q=>∃(p:Addr) (bs:List Bool),xs=[.ref p]/\SqL X.K H p (bs.map V.bl)/\Q (.bl (bs.all id)) H):=by
 intro pins s σ H vs us Q I r h;obtain⟨p,bs,rfl,hS,q⟩:=h;obtain⟨u,rfl,ru⟩:=BD r;cases ru;obtain⟨its,rv,pl,hz⟩:=I.list hS;have hl:its.length=bs.length:=by have:=rv.length;rw[length_map]at this;omega
 refine call_all_walk (wpAny_pyIter_list pl.isList ?_);obtain⟨ol,el,cl,dl⟩:=id pl.isList;have hpne:p≠s.heap.objs.size:=ne_of_lt (lt_size el);have W:=Walks.list (prog:=X.prog) (w:=X.w) (A:=X.A.in1) (show X.A.in1.handled=none from I.ok.hd hc) s.heap.objs.size p hpne its.toArray;refine⟨s.heap.objs.size,[s.heap.objs.size,p],[s.heap.objs.size],its.toArray.size,_,_,λi=>bs.getD i false,rfl,W,⟨⟨_,get?_push_size _ rfl,rfl,rfl⟩,⟨ol,gZ _ el,cl,dl⟩⟩, ?_, ?_⟩
 ·intro i v s' Q' E' hP hQ;have e:v=.bool (bs.getD i false):=SZ rv (by simpa using hP);subst e;exact pZ hQ
 ·intro h' tk hk;have e:((List.range its.toArray.size).all λi=>bs.getD i false)=bs.all id:=by
   rw[size_toArray,hl];exact UF bs
  rw[e];refine⟨.bl (bs.all id),H,I.kept (t':=tk) λb o e=>hk b o (λz=> ?_) (gZ _ e),rfl,q⟩;have z':b=s.heap.objs.size:=by simpa using z
  subst z';exact absurd (lt_size e) (lt_irrefl _)
variable{e v1 v2:Expr}{es:List Expr}{te:TE}{tp t:St->Hp->(Hp->Prop)->Prop}{pos:Pos}
variable{K:FZ}
theorem aEZ(hc:X.calm=true)(hK:X.K=K:=by rfl):S7 X (.builtin "all") (λxs H Q=>∃(p:Addr) (bs:List Bool),xs=[.ref p]/\SqL K H p (bs.map V.bl)/\Q (.bl (bs.all id)) H):=by subst hK;exact UD hc
end
noncomputable abbrev tx(l:List Nat):Str:=⟨l.toArray⟩
theorem YH(l:List Nat):(tx l).length=l.length:=by simp[Str.length]
theorem YS(a b:List Nat):tx a++tx b=tx (a++b):=by
 show Str.append _ _=_;simp[Str.append]
end _L
namespace PySem
theorem ER(t:Tok):Meets (Builtin.«int.__new__» ⟨[.type "int",.str ⟨#[49]⟩ t],[]⟩) (Made.int 1).spec:=
 Meets.of_wp λprog w A R s hs=>by
  obtain⟨hp,g,d,tk,os⟩:=s;have f1:=F.conv_sub_int;have f2:=F.madeHere_int;have hT:(⟨hp,g,d,tk,os⟩:Shared).TypeIs (.str ⟨#[49]⟩ t) "str":=rfl;have f3:typeLookup (.type "str") "__int__"=pure none:=by rw[typeLookup_type,builtinLookup_eq_fast];kernel_rfl
  have f4:typeLookup (.type "str") "__index__"=pure none:=by rw[typeLookup_type,builtinLookup_eq_fast];kernel_rfl
  have f5:typeLookup (.type "str") "__trunc__"=pure none:=by rw[typeLookup_type,builtinLookup_eq_fast];kernel_rfl
  repeat (any_goals (first|assumption|wp_step))
  all_goals try (with_unfolding_all show wpAny _ _ (mkInt 1>>=_) _ _ _)
  repeat (any_goals (first|assumption|wp_step))
  all_goals first|exact⟨_,rfl,hs⟩|skip
end PySem
namespace _L
open PySem PySem.Spec PyProof.Rows
section
variable{X:Cx}
theorem P6:S7 X (.type "int") (λxs H Q=>(∃k,xs=[.bl k]/\Q (.int (if k then 1 else 0)) H)\/∃z,xs=[.str z]/\z=tx [49]/\Q (.int 1) H):=by
 intro pins s σ H xs us Q I r h;rcases h with⟨k,rfl,q⟩|⟨z,rfl,rfl,q⟩
 ·exact UI pins s σ H _ us Q I r (.inr ⟨k,rfl,q⟩)
 ·obtain⟨u,rfl,t,rfl⟩:=BD r;exact call_int_1 (ER t) (show(Made.int 1).post _ s from⟨rfl,.int 1,H,I.tok _,⟨_,rfl⟩,q⟩)
variable{o e f:Expr}{td:TE}{t:TA}{apos cpos:Pos}{K:FZ}{w:World}
variable{K:FZ}
end
theorem Inv.turnedL{X:Cx}{pins:List (Addr×Obj)}{σ:St}{H:Hp}{s:Shared}{h':Heap}{t':Nat}{ch:List Addr}(I:Inv X pins σ H s)(k:∀b o,b∉ch->s.heap.get? b=some o->h'.get? b=some o)(hf:∀b∈ch,JD X pins H b):
  Inv X pins σ H {s with heap:=h',toks:=t'}:=by
 have nit:∀b u,H b=some u->b∉ch:=λb u e z=>by rw[(hf b z).1]at e;cases e
 refine I.step (g':=s.gens) (d':=s.drawn) (ch:=ch) (λb hb=> ?_) (λb o _ _ hc e _=>k b o hc e) (λb o _ _ hc e _=>⟨o.slots,k b o hc e⟩) (λ_ _ _ _ n=>n)
  (λb o hc e=>⟨o,k b o hc e⟩) (λ_ _ e=>e) (λ_ _ _ e=>e) (λb ps e=>⟨#[],by rw[e];simp⟩) (λm hm=> ?_) (λb u e=> ?_) I.bare
 ·obtain⟨_,f1,_,f3,f4,f5⟩:=hf b hb;exact⟨f3,f1,f4,f5⟩
 ·obtain⟨o,es,ep,ho,r⟩:=hm;exact⟨o,es,ep,k _ o (λz=>(hf _ z).2.1 rfl) ho,r⟩
 ·refine(I.hok b u e).stay (λc v hc q=>k c v ?_ q) (λ_ q=>q) λ_ _ q=>q;rcases hc with z|z
  ·rw[z];exact nit b u e
  ·exact nit c _ z
noncomputable def bCZ(P:Program)(w:World)(K:FZ)(mg:Str->Option Value)(base:Heap)(A:Around)(CX:CXT)(E:XK)(tf:TE)(t:TA):TE:=fun σ H Q=>tf σ H λx H0=>∃(f:Addr) (fd:FuncData) (ps:List Str) (sp:Sp) (k:Nat),
 x=.ref f/\FnOk P w K mg base CX k f fd ps sp/\Room k A/\kZ K (.ref f)=true/\Binds K fd ps []/\t σ H0 λvs H1=>sp vs H1 Q E
section
variable{X:Cx}{P:Program}{w:World}{K:FZ}{mg:Str->Option Value}{base:Heap}{A:Around}{CX:CXT}{E:XK}{x:Str}{p pos:Pos}{e:Expr}{es:List Expr}{tf:TE}{t:TA}
theorem NR(hf:PE X (.Name x p) tf)(hx:FK CX X E)(ha:PA X (e::es) t)(hP:X.prog=P:=by rfl)(hw:X.w=w:=by rfl)(hK:X.K=K:=by rfl)(hmg:X.mg=mg:=by rfl)(hbs:X.base=base:=by rfl)(hA:X.A=A:=by rfl)
  (he:starEach (e::es) X.env=(false,eval e X.env)::starEach es X.env:=by rfl)(hpl:(backTo pos (starEach es X.env)).any (·.1)=false:=by rfl):
  PE X (.Call (.Name x p) (e::es) [] pos) (bCZ P w K mg base A CX E tf t):=by
 subst hP;subst hw;subst hK;subst hmg;subst hbs;subst hA;intro pins s σ H Q I h;refine wpAny_Call_Name_kw (thn (hf pins s σ H _ I h) λfv s0 ⟨y,H0,I0,r0,q0⟩=> ?_);obtain⟨f,fd,ps,sp,k,rfl,F,hr,hk,hb,q⟩:=q0;cases r0;refine PySem.W.callWith_K (h₀:=X.base) I0.ok.mod.kin hk (thn (ha pos pins s0 σ H0 _ I0 q) λus s1 ⟨vs,H1,I1,r,q1⟩=>⟨I1.kIn, ?_⟩) he hpl;exact KZ (dvs:=[]) F hr hb .nil hx I1 r (by rw[append_nil];exact q1)
end
theorem GC:bootBuiltins "reversed"=some (.type "reversed"):=by decide +kernel
noncomputable def Itv(K:FZ)(a:Addr)(n:Nat):It:=
 ⟨λi H=>∃xs x,SqL K H a xs/\xs.reverse[i]? =some x/\xs.length=n,λi H x H'=>H'=H/\∀xs,SqL K H a xs->xs.reverse[i]? =some x,λi _=>i=n⟩
theorem XY{P:Program}{w:World}{K:FZ}{tg:Expr}(a it:Addr)(n:Nat):Turn P w K tg (Itv K a n) [it] it (λi h=>h.IsRevIter it a ((n:Int) - 1 - (i:Int))) where
 mem:=by simp
 obj:=λi h st b hb=>by
  have e:b=it:=by simpa using hb
  subst e;obtain⟨o,e,c,d⟩:=st;exact⟨o,e,λv z=>by rw[d]at z;cases z⟩
 keep:=λi h h' st k=>st.at λo e=>k it (by simp) o e
 item:=by
  intro X hP hw hK hc i pins s σ H E I hf st hg;subst hP hw hK;obtain⟨xs,x,hq,hx,hn⟩:=hg;obtain⟨its,rv,p,hz⟩:=I.list hq;have hlt:i<xs.length:=by
   have:=(List.getElem?_eq_some_iff.mp hx).1
   simpa using this
  rw[getElem?_reverse hlt]at hx;obtain⟨u,hu,ru⟩:=rv.get hx;obtain⟨f0,f1,f2,f3,f4,f5⟩:=hf it (by simp);have e1:(n:Int) - 1 - (i:Int)=((xs.length - 1 - i:Nat):Int):=by omega
  have st1:=st;rw[e1]at st1;refine wpAny_pyNext_rev_item st1 p.isList (x:=u) (by simpa using hu) λh' st' sb=> ?_;have I1:Inv X pins σ H {s with heap:=h'}:=I.turned (t':=s.toks) (λb o hb e=>(sb.2 b hb).trans e) f0 f1 f3 f4 f5;have e2:((xs.length - 1 - i:Nat):Int) - 1=(n:Int) - 1 - ((i+1:Nat):Int):=by omega
  rw[e2]at st';obtain⟨o,e,c,d⟩:=id st';exact⟨u,rfl,RZ (s:={s with heap:=h'}) e c d (by decide) ⟨x,H,I1,ru,⟨rfl,λys hy=>by rw[I.list_inj hy hq,getElem?_reverse hlt];exact hx⟩,st',λb hb=>(hf b hb).1⟩⟩
 done:=by
  intro X hP hw hK hc i pins s σ H E I hf st hg;subst hP hw hK;obtain⟨f0,f1,f2,f3,f4,f5⟩:=hf it (by simp);have hi:i=n:=hg;have e1:(n:Int) - 1 - (i:Int)= -1:=by omega
  rw[e1]at st;exact wpAny_pyNext_rev_end (I.ok.hd hc) st λh' eb=>⟨rfl,I.turned (t':=s.toks) (λb o hb e=>eb b o hb e) f0 f1 f3 f4 f5⟩
 self:=λ_ _ _ _ _ st h=>wpAny_pyIter_revIter st h
section
variable{X:Cx}{tg:Expr}{K:FZ}
noncomputable def c5Z(K:FZ)(ta:TA):TI:=fun σ H R=>ta σ H λvs H1=>∃a xs,vs=[.ref a]/\SqL K H1 a xs/\R (Itv K a xs.length) H1
theorem bIZ{a:Expr}{ta:TA}{p pos:Pos}(hg:Gl X "reversed")(hm:X.mg "reversed"=none)(ha:PA X [a] ta)(hK:X.K=K:=by rfl)(hs:starEach [a] X.env=[(false,eval a X.env)]:=by rfl):PI X tg (.Call (.Name "reversed" p) [a] [] pos) (c5Z K ta):=by
 subst hK;intro pins s σ H R I h;refine Call_ (Q0 I hg hm GC (callWith_type1 (thn (ha pos pins s σ H _ I h) λus s1 ⟨vs,H1,I1,r1,q1⟩=> ?_) hs rfl));obtain⟨l,xs,e,hq,q⟩:=q1;subst e;cases r1 with
 |cons r rr=>
  cases rr;cases r;obtain⟨its,rv,pl,hz⟩:=I1.list hq;have hl:its.toArray.size=xs.length:=by rw[size_toArray];exact rv.length.symm
  refine call_reversed_list pl.isList ?_;have st:(s1.heap.push (revObj l ((its.toArray.size:Int) - 1))).IsRevIter s1.heap.objs.size l ((xs.length:Int) - 1 - ((0:Nat):Int)):=⟨_,get?_push_size _ rfl,rfl,by rw[hl];simp[revObj]⟩;refine wpAny_pyIter_revIter st ?_;refine⟨s1.heap.objs.size,[s1.heap.objs.size],_,_,H1,rfl,I1.kept (t':=s1.toks) λb o e=>gZ _ e,XY l _ xs.length,st,λb hb=> ?_,q⟩;have e:b=s1.heap.objs.size:=by simpa using hb
  subst e;exact I1.fpOk (Nat.le_refl _) (I1.hok.fresh (Nat.le_refl _))
end
theorem anZ{K:FZ}{a:Addr}{xs:List V}{g:TG}{tb:TS}{D:Ends}{σ:St}{H:Hp}(Pv:Nat->St->Hp->Prop)(h0:Pv 0 σ H)(hl:∀i σ H,i<=xs.length->Pv i σ H->SqL K H a xs)
  (hs:∀i x σ H,xs.reverse[i]? =some x->Pv i σ H->g x σ H fun σ2 H2=>tb {D with nx:=Pv (i+1),ct:=Pv (i+1),bk:=D.nx} σ2 H2)(hd:∀σ H,Pv xs.length σ H->D.nx σ H):
  ∃W:Nat->Nat->St->Hp->Prop,(∃m,W 0 m σ H)/\∀i m σ H,W i m σ H->
   ((Itv K a xs.length).stop i H/\D.nx σ H)\/((Itv K a xs.length).go i H/\∃N:St->Hp->Prop,(∀σ' H',N σ' H'->∃m',m'<m/\W (i+1) m' σ' H')/\∀x H',(Itv K a xs.length).yld i H x H'->g x σ H' fun σ2 H2=>tb {D with nx:=N,ct:=N,bk:=D.nx} σ2 H2):=by
 refine⟨λi m σ H=>m=xs.length - i/\i<=xs.length/\Pv i σ H,⟨xs.length,by simp,zero_le _,h0⟩, ?_⟩;rintro i m σ H ⟨rfl,hi,p⟩;have q:=hl i σ H hi p;by_cases hlt:i<xs.length
 ·have hlt':i<xs.reverse.length:=by rw[length_reverse];exact hlt
  refine .inr ⟨⟨xs,xs.reverse[i],q,List.getElem?_eq_getElem hlt',rfl⟩,Pv (i+1),fun σ' H' p'=>⟨xs.length - (i+1),by omega,rfl,hlt,p'⟩,λx H' y=> ?_⟩;obtain⟨e,y⟩:=y;subst e;exact hs i x σ _ (y xs q) p
 ·have e:i=xs.length:=by omega
  subst e;exact .inl ⟨rfl,hd σ H p⟩
end _L
namespace PySem
namespace F
theorem nolen_lri:typeLookup (.type "list_reverseiterator") "__len__"=pure none:=by rw[typeLookup_type,builtinLookup_eq_fast];kernel_rfl
theorem hint_lri:typeLookup (.type "list_reverseiterator") "__length_hint__"=pure (some (.builtin "list_reverseiterator.__length_hint__")):=by rw[typeLookup_type,builtinLookup_eq_fast];kernel_rfl
end F
section
variable{prog:Program}{w:World}{A:Around}{E:Value->Shared->Prop}{s:Shared}
noncomputable abbrev BO(items:Array Value):Nat->Value->Prop:=λi v=>items[items.size - 1 - i]? =some v
theorem FW{R:Result->Shared->Prop}(hh:A.handled=none){I l:Addr}{items:Array Value}(hit:s.heap.IsRevIter I l ((items.size:Int) - 1))(hl:s.heap.IsList l items)(hne:l≠I)(S:Addr)(res:Value)(c₀:Nat)
  (hS:s.heap.get? S=some {cls:=.type "list",data:=.seq #[] c₀})(hSI:S≠I)(hSl:S≠l)
  (hR:∀h' tk acc' c',(∀b o,b≠S->b≠I->s.heap.get? b=some o->h'.get? b=some o)->h'.get? S=some {cls:=.type "list",dict:=none,data:=.seq acc' c',slots:= #[]}->
   ItemsOf (BO items) acc' items.size->R (.ok (.ret res)) {s with heap:=h',toks:=tk})(hn:items.size<=sizeLine):
  wpAny (model prog w) A.in1 (Builtin.List.listExtendWith (.ref S) (.ref I) res)
   (λfin s'=>match fin with| .done f=>R (.ok f) s'| .again c'=>c'.quiet=true/\codeAny (model prog w) A c' R s') (λe s'=>R (.error e) s') s:=by
 have hSf:S∉ [I,l]:=λhm=>by
  rcases cZ hm with e|hm
  ·exact hSI e
  ·exact hSl (sZ hm)
 have W:=(Walks.listRev (prog:=prog) (w:=w) (A:=A.in1) hh I l hne items).toS;have hit0:s.heap.IsRevIter I l ((items.size:Int) - 1 - ((0:Nat):Int)):=by
  have e:(items.size:Int) - 1 - ((0:Nat):Int)=(items.size:Int) - 1:=by omega
  rw[e];exact hit
 unfold Builtin.List.listExtendWith;refine bZ (wpAny_typeOf (T:="list_reverseiterator") hit.typeIs ?_);have h1:Builtin.List.listSameRef (.ref S) (.ref I)=false:=by simp[Builtin.List.listSameRef,hSI]
 have h2:(Value.type "list_reverseiterator"==Value.type "list")=false:=by decide
 have h3:(Value.type "list_reverseiterator"==Value.type "tuple")=false:=by decide
 simp only[h1,h2,h3,Bool.or_false,Bool.false_eq_true,if_false];refine bZ (wpAny_pyIter_revIter hit ?_);refine bZ (wpAny_holding ?_);unfold Builtin.List.listLengthHint;refine bZ (wpAny_specialOf hit.typeIs F.nolen_lri ?_);show wpAny _ A.in1 (specialOf (Value.ref I) (Str.ofString "__length_hint__")>>=_) _ _ _;refine bZ (wpAny_specialOf hit.typeIs F.hint_lri ?_);generalize hid:("list_reverseiterator.__length_hint__":String)=id0
 wp_delta
 rw[show splitId id0=some ("list_reverseiterator","__length_hint__")from by subst hid;decide +kernel];subst hid;refine bZ (wpAny_isInstance (b:=true) hit.typeIs (by rw[isSubtype_type];kernel_rfl) ?_);refine pZ ?_;rw[if_neg (by decide)];refine pZ ⟨plainId_quiet F.plain_extend_loop _,codeAny_extend_loopS W hn _ hSf _ items.size 0 _ _ _ rfl (zero_le _) ⟨zero_le _,hit0,hl⟩ hS (ItemsOf.nil _) λs' acc' c' hm hS' hacc=> ?_⟩;rw[Moved.eq_with hm];refine hR s'.heap s'.toks acc' c' (λb ob hb hb2 e=>hm.heap b ob (λhmem=> ?_) e) hS' hacc;rcases cZ hmem with e'|hmem
 ·exact hb e'
 ·exact hb2 (sZ hmem)
theorem CN{R:Result->Shared->Prop}(hh:A.handled=none){I l:Addr}{items:Array Value}(hit:s.heap.IsRevIter I l ((items.size:Int) - 1))(hl:s.heap.IsList l items)(hne:l≠I)(S:Addr)(hSI:S≠I)(hSl:S≠l)
  (hS:s.heap.get? S=some {cls:=.type "list",data:=.seq #[]})
  (hR:∀h' tk acc' c',(∀b o,b≠S->b≠I->s.heap.get? b=some o->h'.get? b=some o)->h'.get? S=some {cls:=.type "list",dict:=none,data:=.seq acc' c',slots:= #[]}->
   ItemsOf (BO items) acc' items.size->R (.ok (.ret .none)) {s with heap:=h',toks:=tk})(hn:items.size<=sizeLine):
  wpAny (model prog w) A.in1 (Builtin.«list.__init__» ⟨[.ref S,.ref I],[]⟩)
   (λfin s'=>match fin with| .done f=>R (.ok f) s'| .again c'=>c'.quiet=true/\codeAny (model prog w) A c' R s') (λe s'=>R (.error e) s') s:=by
 show wpAny _ _ (do let old<-Builtin.List.listItems (.ref S);Builtin.List.listUpdate (.ref S) (λ_=> #[]);letGo old.toList.reverse;Builtin.List.listExtendWith (.ref S) (.ref I) .none) _ _ s;refine bZ ?_;unfold Builtin.List.listItems;refine bZ (wpAny_seqItems hS rfl (pZ ?_));show wpAny _ _ (updateSeq S (λ_=> #[])>>=λ_=>letGo (#[]:Array Value).toList.reverse>>=λ_=>Builtin.List.listExtendWith (.ref S) (.ref I) .none) _ _ s;refine bZ (wpAny_updateSeq hS rfl ?_);have hS₂:=get?_update_self (Obj.mapSeq (λ_=>(#[]:Array Value))) hS rfl;have oth:∀b o,b≠S->s.heap.get? b=some o->(s.heap.update S (Obj.mapSeq (λ_=>(#[]:Array Value)))).get? b=some o:=
  λb o hb e=>(get?_update_other _ _ (Ne.symm hb)).trans e
 refine bZ (wpAny_letGo ?_);refine FW hh (hit.at λo e=>oth I o (Ne.symm hSI) e) (hl.at λo e=>oth l o (Ne.symm hSl) e) hne S .none _ hS₂ hSI hSl (λh' tk acc' c' hk hS' hacc=> ?_) hn;exact hR h' tk acc' c' (λb o hb hb2 e=>hk b o hb hb2 (oth b o hb e)) hS' hacc
theorem IX{Q:Value->Shared->Prop}(hh:A.handled=none){I l:Addr}{items:Array Value}(hit:s.heap.IsRevIter I l ((items.size:Int) - 1))(hl:s.heap.IsList l items)(hne:l≠I)
  (hQ:∀h' tk acc' c',(∀b o,b≠I->s.heap.get? b=some o->h'.get? b=some o)->
   h'.get? s.heap.objs.size=some {cls:=.type "list",dict:=none,data:=.seq acc' c',slots:= #[]}->ItemsOf (BO items) acc' items.size->Q (.ref s.heap.objs.size) {s with heap:=h',toks:=tk})(hn:items.size<=sizeLine):
  wpAny (model prog w) A (call (.type "list") [.ref I]) Q E s:=by
 have ltI:I<s.heap.objs.size:=let⟨o,e,_⟩:=hit;lt_size e;have ltl:l<s.heap.objs.size:=let⟨o,e,_⟩:=hl;lt_size e;refine callType_codes (Q₁:=λobj s₁=>obj=.ref s.heap.objs.size/\s₁={s with heap:=s.heap.push {cls:=.type "list",data:=.seq #[]}}) F.called_list (F.typeCall_list_1 _) F.entry_list_init
  (code_list_new _ ⟨rfl,rfl⟩) λobj s₁ h₁=> ?_
 obtain⟨rfl,rfl⟩:=h₁;have hS:(s.heap.push {cls:=.type "list",data:=.seq #[]}).get? s.heap.objs.size=some {cls:=.type "list",data:=.seq #[]}:=get?_push_size _ rfl;refine⟨⟨_,hS,rfl⟩,F.args_list_init_2 _ _,CN (A:=A.in1) hh (hit.at λo e=>gZ _ e) (hl.at λo e=>gZ _ e) hne _ (Nat.ne_of_gt ltI) (Nat.ne_of_gt ltl) hS (λh' tk acc' c' hk hS' hacc=> ?_) hn⟩;exact⟨rfl,hQ h' tk acc' c' (λb o hb e=>hk b o (ne_of_lt (lt_size e)) hb (gZ _ e)) hS' hacc⟩
theorem TR{its:List Value}{acc:Array Value}(h:ItemsOf (BO its.toArray) acc its.toArray.size):acc=its.reverse.toArray:=by
 obtain⟨h1,h2⟩:=h;refine Array.ext (by simpa using h1) λi hi hi2=> ?_;have e:=h2 i acc[i] (Array.getElem?_eq_getElem hi);have e':its[its.length - 1 - i]? =some acc[i]:=by simpa [BO]using e
 have hlt:i<its.length:=by simpa using hi2
 have e2:its.reverse[i]? =some acc[i]:=by rw[getElem?_reverse hlt];exact e'
 have e3:its.reverse.toArray[i]? =some acc[i]:=by simpa using e2
 rw[Array.getElem?_eq_getElem hi2]at e3;exact(Option.some.inj e3).symm
end
end PySem
namespace _L
open PySem PySem.Spec PyProof.Rows
theorem Vals.rev{vs:List V}{us:List Value}(h:Vals vs us):Vals vs.reverse us.reverse:=by
 induction h with
 |nil=>exact .nil
 |cons r _ ih=>rw[reverse_cons,reverse_cons];exact ih.append (.cons r .nil)
section
variable{X:Cx}{K:FZ}
noncomputable def YQ(K:FZ)(ta:TA):TE:=fun σ H Q=>ta σ H λvs H1=>∃a xs,vs=[.ref a]/\SqL K H1 a xs/\∀r,H1 r=none->Q (.ref r) (upd H1 r (.lst xs.reverse))
theorem PP{a:Expr}{ta:TA}{p p' pos pos':Pos}(hg:Gl X "reversed")(hm:X.mg "reversed"=none)(hg':Gl X "list")(hm':X.mg "list"=none)(hc:X.calm=true)(ha:PA X [a] ta)(hK:X.K=K:=by rfl)(hs:starEach [a] X.env=[(false,eval a X.env)]:=by rfl)
  (hs':starEach [.Call (.Name "reversed" p) [a] [] pos] X.env=[(false,eval (.Call (.Name "reversed" p) [a] [] pos) X.env)]:=by rfl):
  PE X (.Call (.Name "list" p') [.Call (.Name "reversed" p) [a] [] pos] [] pos') (YQ K ta):=by
 subst hK;intro pins s σ H Q I h;refine wpAny_Call_Name_kw (Q0 I hg' hm' U4 ?_);refine callWith_type1 ?_ hs' rfl;rw[hs'];refine Calls.spliced_cons (Call_ (Q0 I hg hm GC (callWith_type1 (thn (ha pos pins s σ H _ I h) λus s1 ⟨vs,H1,I1,r1,q1⟩=> ?_) hs rfl)));obtain⟨l,xs,e,hq,q⟩:=q1;subst e;cases r1 with
 |cons r rr=>
  cases rr;cases r;obtain⟨its,rv,pl,hz⟩:=I1.list hq;refine call_reversed_list pl.isList ?_;refine Calls.spliced_nil ?_;have st:(s1.heap.push (revObj l ((its.toArray.size:Int) - 1))).IsRevIter s1.heap.objs.size l ((its.toArray.size:Int) - 1):=⟨_,get?_push_size _ rfl,rfl,rfl⟩;have ltl:l<s1.heap.objs.size:=let⟨o,e,_⟩:=pl.isList;lt_size e;have hlen:=rv.length;refine IX (I1.ok.hd hc) st (pl.isList.at λo e=>gZ _ e) (ne_of_lt ltl) (λh' tk acc c hk hS hacc=> ?_) (by rw[size_toArray,<-hlen];exact hz);rw[TR hacc]at hS;have ns:(s1.heap.push (revObj l ((its.toArray.size:Int) - 1))).objs.size=s1.heap.objs.size+1:=Heap.size_push ..;rw[ns]at hS⊢;have kp:∀b o,s1.heap.get? b=some o->h'.get? b=some o:=λb o e=>hk b o (ne_of_lt (lt_size e)) (gZ _ e);exact⟨.ref (s1.heap.objs.size+1),_,I1.laid (t':=tk) kp (le_succ _) (show ObjOk X.prog X.w _ h' _ (.lst xs.reverse)from⟨by rw[length_reverse];exact hz,its.reverse,c,rv.rev,hS⟩),rfl,q _ (I1.hok.fresh (le_succ _))⟩
end
theorem ME:bootBuiltins "zip"=some (.type "zip"):=by decide +kernel
section
variable{X:Cx}{K:FZ}{elts:List Expr}{kt:Nat}{pt:Pos}
end
theorem LQ{prog:Program}{w:World}{A:Around}{R:Result->Shared->Prop}{s:Shared}{elt target iter:Expr}{ifs:List Expr}{scope:Scope}{pos:Pos}{it acc:Value}{env:Env}(I:Nat->Shared->Prop)
  (turn:∀n s,I n s->wpAny (model prog w) A (pyNext it) (λr s₁=>match r with
   |none=>R (.ok .next) s₁
   |some v=>wpAny (model prog w) A (letOwnedTupleGo target it v) (λ_ s₀=>wpAny (model prog w) A (assign target env v) (λ_ s₂=>
     wpAny (model prog w) A (forIn ifs true λc r=>if r=true then do let ok<-isTrue c env (eval c env);pure (ForInStep.yield ok)else pure (ForInStep.yield r)) (λok s₃=>
      if ok=true then wpAny (model prog w) A (eval elt env) (λx s₄=>
       wpAny (model prog w) A (call (.builtin "list.append") [acc,x]) (λ_ s₅=>∃m,m<n/\I m s₅) (notedBy (model prog w) A env λe s'=>R (.error e) s') s₄) (notedBy (model prog w) A env λe s'=>R (.error e) s') s₃
      else∃m,m<n/\I m s₃) (notedBy (model prog w) A env λe s'=>R (.error e) s') s₂) (notedBy (model prog w) A env λe s'=>R (.error e) s') s₀) (notedBy (model prog w) A env λe s'=>R (.error e) s') s₁)
   (notedBy (model prog w) A env λe s'=>R (.error e) s') s)
  (n:Nat)(h:I n s):codeAny (model prog w) A (.compLoop (.ListComp elt [⟨target,iter,ifs,0⟩] scope pos) 0 it acc env) R s:=by
 refine codeAny_loop rfl I (λn s hI=> ?_) n h;show wpAny _ A ((compTurn (.ListComp elt [⟨target,iter,ifs,0⟩] scope pos) 0 it acc env).onRaise (λx=>do noteFrame x env;theTreesLotGoes x)) _ _ s;refine wpAny_noted ?_;rw[compTurn_list];refine bZ (wpAny_standAt (bZ (thn (turn n s hI) λr s₁ h₁=> ?_)));cases r with
 |none=>exact pZ h₁
 |some v=>
  refine bZ (thn h₁ λ_ s₀ h₀=>bZ (thn h₀ λ_ s₂ h₂=>bZ (thn h₂ λok s₃ h₃=> ?_)));cases ok with
  |false=>exact pZ ⟨rfl,h₃⟩
  |true=>exact bZ (bZ (thn h₃ λx s₄ h₄=>bZ (thn h₄ λ_ s₅ h₅=>pZ (pZ ⟨rfl,h₅⟩))))
structure CompScope2 (N:List Str) (sc scope:Scope) (x1 x2:Str) (caps:List Nat) (ns:List Str):Prop where
 cell:∀y∈scope.names,y.2≠ .cell
 kind:scope.kind=.function
 names:∀y∈scope.names,y.2=.local->scope.names.lookup y.1=some .local
 var1:scope.names.lookup x1=some .local
 var2:scope.names.lookup x2=some .local
 free:∀y∈scope.names,y.2=.free->sc.names.lookup y.1=some .cell\/sc.names.lookup y.1=some .free
 at_:caps.map (λj=>N[j]?)=ns.map some
 nsf:∀y∈ns,scope.names.lookup y=some .free
 nd:(x1::x2::ns).Nodup
noncomputable def capσ2(caps:List Nat)(σ:St)(u v:Option V):St:=u::v::caps.map λj=>(σ[j]?).getD none
noncomputable def SJ(K:FZ)(wi:TI)(caps:List Nat)(tt:TT)(te:TE)(σ:St)(H:Hp)(R:List V->Hp->Prop):Prop:=wi σ H λJ H1=>∃W:Nat->Nat->List V->Hp->Prop,(∃m,W 0 m [] H1)/\∀i m ys H,W i m ys H->
 ys.length<=sizeLine/\((J.stop i H/\R ys H)\/(J.go i H/\∃N:List V->Hp->Prop,(∀ys' H',N ys' H'->∃m',m'<m/\W (i+1) m' ys' H')/\∀v H',J.yld i H v H'->∃a v1 v2,v=.ref a/\SqT K H' a [v1,v2]/\
  tt (capσ2 caps σ (some v1) (some v2)) H' λb H2=>if b=true then te (capσ2 caps σ (some v1) (some v2)) H2 λy H3=>N (ys++ [y]) H3 else N ys H2))
noncomputable def bbZ(K:FZ)(wi:TI)(caps:List Nat)(tt:TT)(te:TE):TE:=fun σ H Q=>SJ K wi caps tt te σ H λys H1=>∀D,H1 D=none->Q (.ref D) (upd H1 D (.lst ys))
section
variable{X:Cx}
set_option maxHeartbeats 4000000 in
theorem QF{x1 x2:Str}{px1 px2 ptu:Pos}{ktu:Nat}{iter elt:Expr}{ifs:List Expr}{scope:Scope}{pos pos':Pos}{wi:TI}{tt:TT}{te:TE}{caps:List Nat}{ns:List Str}{use:Option (Value->Sem Unit)}{Q:Value->Shared->Prop}
  {pins:List (Addr×Obj)}{s:Shared}{σ:St}{H:Hp}{R:List V->Hp->Prop}
  (CS:CompScope2 X.N X.env.scope scope x1 x2 caps ns)(hc:X.calm=true)(hi:PI X (.Tuple [.Name x1 px1,.Name x2 px2] ktu ptu) iter wi)
  (ht:∀cl C s H fp,PTs (X.comp (x1::x2::ns) scope cl C s H fp) ifs tt)(he:∀cl C s H fp,PE (X.comp (x1::x2::ns) scope cl C s H fp) elt te)
  (hs:∀v,foldedSetIterable iter X.env v=pure v)
  (I:Inv X pins σ H s)(h:SJ X.K wi caps tt te σ H R)
  (hend:∀D C s' H' ys,Inv X pins σ (upd H' D (.lst ys)) s'->H' D=none->R ys H'->(∃m,s'.heap.Ns C m)->(upd H' D (.lst ys)) C=none->C≠X.env.locals->X.s₀.heap.objs.size<=C->(∀y c,X.env.cells.lookup y=some c->c≠C)->(∀p∈X.pn++pins,p.1≠C)->
   compPost (model X.prog X.w) X.A X.xe use Q (.ref D) C (.ok .next) s'):
  wpAny (model X.prog X.w) X.A (comprehension (.ListComp elt [⟨.Tuple [.Name x1 px1,.Name x2 px2] ktu ptu,iter,ifs,0⟩] scope pos) scope X.env pos' (newList []) false (eval iter X.env) use) Q X.xe s:=by
 have hcells:∀y∈scope.names,y.2=.free->∃c,X.env.cells.lookup y.1=some c:=λy hy hf=>I.ok.has y.1 (CS.free y hy hf);refine wpAny_comprehension_free (use:=use) rfl hs (BG hcells) CS.kind CS.names ?_;refine thn (hi pins s σ H _ I h) λv s1 h1=>thn h1 λitv s2 h2=> ?_;obtain⟨it,fp,tn,J,H2,e,I2,T,st2,f2,W,⟨m0,w0⟩,turn⟩:=h2;subst e;refine wpAny_newObj_type (wpAny_newFunctionEnv CS.cell (by intro y hy;simp at hy) (λh₁ hns₁ hsb₁=> ?_) CS.kind)
 dsimp only at hns₁ hsb₁⊢
 generalize hHH:s2.heap.push {cls:=.type "list",dict:=none,data:=.seq ([]:List Value).toArray}=HH at hns₁ hsb₁⊢;have hC:HH.objs.size=s2.heap.objs.size+1:=by rw[<-hHH,Heap.size_push]
 generalize hCe:HH.objs.size=C at hns₁ hsb₁ hC⊢;have hDC:s2.heap.objs.size≠C:=by rw[hC];exact ne_of_lt (Nat.lt_succ_self _)
 have below:∀b,b<s2.heap.objs.size->b≠C/\b≠s2.heap.objs.size:=λb hb=>⟨by rw[hC];exact ne_of_lt (lt_succ_of_lt hb),ne_of_lt hb⟩;have old:∀b o,s2.heap.get? b=some o->h₁.get? b=some o:=λb o e=>hsb₁.extBut b o (below b (lt_size e)).1 (gZ _ (hHH▸gZ _ e));have hacc:h₁.get? s2.heap.objs.size=some (LCg.lst []):=hsb₁.extBut _ _ hDC (gZ _ (hHH▸get?_push_size _ rfl));have nfp:∀b∈fp,b<s2.heap.objs.size:=λb hb=>let⟨o,e,_⟩:=T.obj _ _ st2 b hb;lt_size e;have clsub:∀y c,(BN X.env.cells scope.names []).lookup y=some c->X.env.cells.lookup y=some c:=λy c e=>by
  rcases IM scope.names [] (y,c) hcells (PySem.mem_of_lookup e)with q|q
  ·cases q
  ·exact q.1
 have fresh2:∀a,s2.heap.objs.size<=a->H2 a=none:=λa ha=>I2.hok.fresh ha;generalize hcl:BN X.env.cells scope.names []=cl at clsub⊢;have clhas:∀y,(y,NameKind.free)∈scope.names->∃c,cl.lookup y=some c:=λy hy=>by
  obtain⟨c,q⟩:=IN (cells:=X.env.cells) scope.names [] y (.inl hy);rw[hcl]at q;obtain⟨d,q1,_⟩:=AD q;exact⟨d,q1⟩
 have ltC:∀y c,X.env.cells.lookup y=some c->c<s2.heap.objs.size:=λy c e=>let⟨v,z⟩:=I2.cell y c e;z.lt;have ok':(X.comp (x1::x2::ns) scope cl C s2 H2 fp).Ok:=by
  refine⟨I2.ok.mod,CS.kind,I2.ok.glob,I2.ok.blt,(by show s2.heap.objs.size<=C;rw[hC];exact le_succ _),λy z c a b=>I2.ok.inj y z c (clsub y c a) (clsub z c b),λy hy=>clhas y (BP hy CS.cell),λy c z=>(by cases z),I2.ok.hd,I2.ok.frames,.inl rfl,
   λb hb=>⟨(below b (nfp b hb)).1,λy c e z=>(f2 b hb).2.2.2.2.1 y c (clsub y c e) z⟩,λb o e=>I2.bs b o e,Nat.le_trans I2.ok.bsz I2.sz,λb o e hb=> ?_,λb hb hf=> ?_,I2.stack,I2.stkFree⟩
  ·rcases(f2 b hb).2.2.2.1 with z|z
   ·exact I2.ok.noex b o e z
   ·exact absurd (lt_of_lt_of_le (lt_size e) (Nat.le_trans I2.ok.bsz z)) (lt_irrefl _)
  ·rcases cZ (I2.stkSub b hf)with z|z
   ·exact(f2 b hb).2.1 z
   ·exact(f2 b hb).2.2.1 z
 have capget:∀(k:Nat) (y:Str) (v:V),(x1::x2::ns)[k]? =some y->(capσ2 caps σ none none)[k]? =some (some v)->∃j,X.N[j]? =some y/\σ[j]? =some (some v)/\scope.names.lookup y=some .free:=λk y v e1 e2=>by
  match k,e1,e2 with
  |0,_,e2=>cases e2
  |1,_,e2=>cases e2
  |k+2,e1,e2=>
   have e1':ns[k]? =some y:=by simpa using e1
   have e2':(caps.map λj=>(σ[j]?).getD none)[k]? =some (some v):=by simpa [capσ2]using e2
   have e3:(ns.map some)[k]? =some (some y):=by rw[getElem?_map,e1'];rfl
   rw[<-CS.at_,getElem?_map]at e3;rw[getElem?_map]at e2';cases hj:caps[k]? with
   |none=>rw[hj]at e3;cases e3
   |some j=>
    rw[hj]at e3 e2';have e4:X.N[j]? =some y:=Option.some.inj e3;have e5:(σ[j]?).getD none=some v:=Option.some.inj e2';refine⟨j,e4, ?_,CS.nsf y (mem_of_getElem? e1')⟩;cases hσ:σ[j]? with
    |none=>rw[hσ]at e5;cases e5
    |some z=>rw[hσ]at e5;have e6:z=some v:=e5;rw[e6]
 have visfree:∀y,scope.names.lookup y=some .free->X.env.kindOf y=some .cell\/X.env.kindOf y=some .free:=λy hy=>CS.free (y,.free) (PySem.mem_of_lookup hy) rfl;have I0:Inv (X.comp (x1::x2::ns) scope cl C s2 H2 fp) (pins++ [(s2.heap.objs.size,LCg.lst [])]) (capσ2 caps σ none none) H2 {s2 with heap:=h₁,toks:=s2.toks+([]:List (Str×Value)).length}:=by
  obtain⟨m2,hn2,hl2⟩:=I2.loc;refine⟨ok',rfl,I2.bare,Un.kept old,⟨_,hns₁,λk y v e1 e2 e3=> ?_⟩,λy c e=> ?_,fresh2 C (by rw[hC];exact le_succ _),λy c e=>I2.freeC y c (clsub y c e),λp hp=> ?_,I2.hok.kept old, ?_⟩
  ·obtain⟨j,q1,q2,q3⟩:=capget k y v e1 e2;have vf:=visfree y q3;obtain⟨u,ru,lk⟩:=hl2 j y v q1 q2 (vf.elim (λz=> .inr (.inl z)) λz=> .inr (.inr z));refine⟨u,ru,.inr ⟨P9 q3, ?_⟩⟩;obtain⟨c,hcl'⟩:=clhas y (PySem.mem_of_lookup q3);refine⟨c,hcl', ?_⟩;rcases lk with⟨k1,_⟩|⟨_,c',e',z⟩
   ·rcases vf with vf|vf<;>(rw[k1]at vf;cases vf)
   ·have q:=clsub y c hcl';rw[e']at q;cases q;exact z.keeps old
  ·obtain⟨v,z⟩:=I2.cell y c (clsub y c e);exact⟨v,z.keeps old⟩
  ·rcases mem_append.mp hp with hp|hp
   ·obtain⟨a1,a2,a3,a4,a5⟩:=I2.pin p (mem_append_left _ hp);refine⟨old _ _ a1,a2,(below _ (lt_size a1)).1,λz=> ?_,a5⟩;rcases cZ (I2.stkSub _ z)with z|z
    ·exact a3 z
    ·exact a4 z
   ·rcases mem_append.mp hp with hp|hp
    ·obtain⟨a1,a2,a3,a4,a5⟩:=I2.pin p (mem_append_right _ hp);refine⟨old _ _ a1,a2,(below _ (lt_size a1)).1,λz=> ?_,a5⟩;rcases cZ (I2.stkSub _ z)with z|z
     ·exact a3 z
     ·exact a4 z
    ·have e:p=(s2.heap.objs.size,LCg.lst []):=by simpa using hp
     subst e;refine⟨hacc,fresh2 _ (Nat.le_refl _),hDC,λz=> ?_,λv z=>by cases z⟩;rcases cZ (I2.stkSub _ z)with z|z
     ·exact absurd I2.lt (by rw[<-z];exact lt_irrefl _)
     ·exact I2.nofs (Nat.le_refl _) z
  ·show(capσ2 caps σ none none).length=(x1::x2::ns).length;have:=congrArg List.length CS.at_;simp only[length_map]at this;simp[capσ2,this]
 have loop:∀s₃:Shared,s₃={s2 with heap:=h₁,toks:=s2.toks+([]:List (Str×Value)).length}->
   codeAny (model X.prog X.w) X.A (.compLoop (.ListComp elt [⟨.Tuple [.Name x1 px1,.Name x2 px2] ktu ptu,iter,ifs,0⟩] scope pos) 0 (.ref it) (.ref s2.heap.objs.size) (compEnvC scope cl C X.env))
    (compPost (model X.prog X.w) X.A X.xe use Q (.ref s2.heap.objs.size) C) s₃:=by
  rintro s₃ rfl;refine LQ (λn s'=>∃i ys us H',Inv (X.comp (x1::x2::ns) scope cl C s2 H2 fp) (pins++ [(s2.heap.objs.size,LCg.lst us)]) (capσ2 caps σ none none) H' s'/\Vals ys us/\tn i s'.heap/\(∀b∈fp,H' b=none)/\W i n ys H') ?_ m0
   ⟨0,[],[],H2,I0,.nil,T.keep _ _ _ st2 (λb _ o e=>old b o e),λb hb=>(f2 b hb).1,w0⟩
  rintro n s3 ⟨i,ys,us,H3,I3,rv,st3,fr3,w3⟩;obtain⟨hle,hstep⟩:=turn i n ys H3 w3;have pinlt:∀p∈X.pn++pins,p.1<s2.heap.objs.size:=λp hp=>lt_size (I2.pin p hp).1;have stat:∀ {H':Hp},(∀b∈fp,H' b=none)->∀b∈fp,JD (X.comp (x1::x2::ns) scope cl C s2 H2 fp) (pins++ [(s2.heap.objs.size,LCg.lst us)]) H' b:=λhn b hb=>
   ⟨hn b hb,(below b (nfp b hb)).1,ok'.exfs b hb,.inl hb,λy c e z=>(f2 b hb).2.2.2.2.1 y c (clsub y c e) z,λp hp=>by
    rcases mem_append.mp hp with hp|hp
    ·exact(f2 b hb).2.2.2.2.2 p (mem_append_left _ hp)
    ·rcases mem_append.mp hp with hp|hp
     ·exact(f2 b hb).2.2.2.2.2 p (mem_append_right _ hp)
     ·have e:p=(s2.heap.objs.size,LCg.lst us):=by simpa using hp
      subst e;exact Ne.symm (below b (nfp b hb)).2⟩
  have memD:∀(l:List (Addr×Obj)),(s2.heap.objs.size,LCg.lst us)∈(X.comp (x1::x2::ns) scope cl C s2 H2 fp).pn++((pins++ [(s2.heap.objs.size,LCg.lst us)])++l):=λl=>
   mem_append_right _ (mem_append_left _ (mem_append_right _ mem_cons_self))
  rcases hstep with⟨stop,r⟩|⟨go,Nx,hNx,step⟩
  ·refine thn (T.done (X.comp (x1::x2::ns) scope cl C s2 H2 fp) rfl rfl rfl hc i _ s3 _ H3 _ I3 (stat fr3) st3 stop) λr' s4 ⟨hr,I4⟩=> ?_;subst hr;have pD:=I4.pin (s2.heap.objs.size,LCg.lst us) (mem_append_right _ (mem_append_right _ mem_cons_self));have hDn:H3 s2.heap.objs.size=none:=pD.2.1;have hCn:H3 C=none:=I4.free;have b4:Un (frs X.stack) fp H2 H3 s2.heap s4.heap:=I4.base;have u4:Un (frs X.stack) fp H2 (upd H3 s2.heap.objs.size (.lst ys)) s2.heap s4.heap:=
    ⟨b4.keep,b4.slot,λb o e n hx=>by rw[B9 (below b (lt_size e)).2];exact b4.free b o e n hx,b4.there,
     λb xs q=>by rw[B9 (C1 (b4.tups b xs q) hDn)];exact b4.tups b xs q,λb o u q=>by rw[B9 (C1 (b4.frzs b o u q) hDn)];exact b4.frzs b o u q,
     λb ps q=>by
      obtain⟨m1,e1⟩:=b4.tbls b ps q;exact⟨m1,by rw[B9 (C1 e1 hDn)];exact e1⟩⟩
   have k4:HOk X.prog X.w (upd H3 s2.heap.objs.size (.lst ys)) s4.heap:=λb u e=>by
    by_cases hb:b=s2.heap.objs.size
    ·subst hb;rw[A2]at e;cases e;exact⟨hle,us,_,rv,pD.1⟩
    ·rw[B9 hb]at e;exact(I4.hok b u e).stay (λc v _ q=>q) (λc q=>by rw[B9 (C1 q hDn)];exact q) λc xs q=>by rw[B9 (C1 q hDn)];exact q
   have J4:Inv X pins σ (upd H3 s2.heap.objs.size (.lst ys)) s4:=I2.call' (ch:=fp) I4.os u4 k4 I4.bare λb hb=>⟨(f2 b hb).2.2.2.1,(f2 b hb).2.1,(f2 b hb).2.2.2.2.1,(f2 b hb).2.2.2.2.2⟩;obtain⟨mC,hnC,_⟩:=I4.loc;exact hend _ C s4 H3 ys J4 hDn r ⟨mC,hnC⟩ (by rw[B9 (Ne.symm hDC)];exact hCn) (Ne.symm (below _ I2.lt).1) (by rw[hC];exact le_succ_of_le I2.sz) (λy c e=>(below c (ltC y c e)).1) λp hp=>(below _ (pinlt p hp)).1
  ·refine thn (T.item (X.comp (x1::x2::ns) scope cl C s2 H2 fp) rfl rfl rfl hc i _ s3 _ H3 _ I3 (stat fr3) st3 go) λr' s4 ⟨u,hr,h4⟩=> ?_;subst hr;refine thn h4 λ_ s5 ⟨v,H5,I5,r5,y5,st5,fr5⟩=> ?_;have I5':=I5.pinned (stat fr5) (T.obj _ _ st5);obtain⟨aT,v1,v2,ev,hT,step'⟩:=step v H5 y5;have PGt:PG (X.comp (x1::x2::ns) scope cl C s2 H2 fp) (.Tuple [.Name x1 px1,.Name x2 px2] ktu ptu) (cyZ X.K 2 (VF (GD 0) (VF (GD 1) cFZ))):=
    FQ (X:=X.comp (x1::x2::ns) scope cl C s2 H2 fp) hc (O4 (EV (i:=0) CS.nd rfl (.inl (lookup_relabel_local CS.var1)) (.inr (lookup_relabel_local CS.var1)))
     (O4 (EV (i:=1) CS.nd rfl (.inl (lookup_relabel_local CS.var2)) (.inr (lookup_relabel_local CS.var2))) CK))
   refine wpAny_mono (PGt _ s5 _ H5 v u (fun σ' H'=>σ'=capσ2 caps σ (some v1) (some v2)/\H'=H5) I5' r5 ⟨aT,[v1,v2],ev,hT,rfl,v1,[v2],rfl,v2,[],rfl,rfl,rfl,rfl⟩) (λ_ s6 hs6=> ?_) (λ_ _ e=>e.elim);obtain⟨σ6,H6,I6',e6,e6'⟩:=hs6;subst e6';subst e6;refine wpAny_mono (ht cl C s2 H2 fp _ s6 _ _ _ I6' step') (λb s7 ⟨H7,I7,q7⟩=> ?_) (λ_ _ e=>e.elim);have weak:∀ {H':Hp} {s':Shared} {pl:List (Addr×Obj)},Inv (X.comp (x1::x2::ns) scope cl C s2 H2 fp) pl (capσ2 caps σ (some v1) (some v2)) H' s'->Inv (X.comp (x1::x2::ns) scope cl C s2 H2 fp) pl (capσ2 caps σ none none) H' s':=λ{H' s' pl} J'=>
    J'.weak rfl λk z e=>by
     match k,e with
     |0,e=>cases e
     |1,e=>cases e
     |k+2,e=>exact e
   have keepT:∀ {H':Hp} {s':Shared},Inv (X.comp (x1::x2::ns) scope cl C s2 H2 fp) ((pins++ [(s2.heap.objs.size,LCg.lst us)])++DR fp s5.heap) (capσ2 caps σ (some v1) (some v2)) H' s'->tn (i+1) s'.heap/\∀b∈fp,H' b=none:=λ{H' s'} J'=>by
    refine⟨T.keep _ _ _ st5 λb hb o e=>(J'.pin (b,o) (mem_append_right _ (mem_append_right _ (T7 hb e)))).1,λb hb=> ?_⟩;obtain⟨o,e,d⟩:=T.obj _ _ st5 b hb;exact(J'.pin (b,o) (mem_append_right _ (mem_append_right _ (T7 hb e)))).2.1
   cases b with
   |false=>
    rw[if_neg nZ]at q7⊢;obtain⟨m',hm,w7⟩:=hNx _ _ q7;exact⟨m',hm,i+1,ys,us,H7,weak I7.unpinned,rv,(keepT I7).1,(keepT I7).2,w7⟩
   |true=>
    rw[if_pos rfl]at q7⊢;refine wpAny_mono (he cl C s2 H2 fp _ s7 _ H7 _ I7 q7) (λyv s8 ⟨y,H8,I8,ry,n8⟩=> ?_) (λ_ _ e=>e.elim);obtain⟨m',hm,w8⟩:=hNx _ _ n8;have pD:=I8.pin (s2.heap.objs.size,LCg.lst us) (memD _);have hul:us.length=ys.length:=rv.length.symm;refine append_at (hsz:=by show us.toArray.size<=sizeLine;rw[size_toArray,hul];exact hle) pD.1 λh9 hs9 hD9=> ?_;have I8p:Inv (X.comp (x1::x2::ns) scope cl C s2 H2 fp) pins (capσ2 caps σ none none) H8 s8:=weak I8.unpinned.unpinned;have I9:Inv (X.comp (x1::x2::ns) scope cl C s2 H2 fp) pins (capσ2 caps σ none none) H8 {s8 with heap:=h9}:=I8p.turned (t':=s8.toks) (it:=s2.heap.objs.size) (λb o hb e=>(hs9.2 b hb).trans e) pD.2.1 hDC (.inr (Nat.le_refl _)) (λy c e z=>ne_of_lt (ltC y c (clsub y c e)) z) λp hp=>ne_of_lt (pinlt p hp);have I9':Inv (X.comp (x1::x2::ns) scope cl C s2 H2 fp) (pins++ [(s2.heap.objs.size,LCg.lst (us++ [yv]))]) (capσ2 caps σ none none) H8 {s8 with heap:=h9}:=I9.pins_of λp hp=>by
     rcases mem_append.mp hp with hp|hp
     ·exact I9.pin p (mem_append_right _ hp)
     ·have e:p=(s2.heap.objs.size,LCg.lst (us++ [yv])):=by simpa using hp
      subst e;exact⟨hD9.trans (congrArg some (LCg.lst_snoc us yv)),pD.2.1,hDC,pD.2.2.2.1,λv z=>by cases z⟩
    refine⟨m',hm,i+1,ys++ [y],us++ [yv],H8,I9',rv.append (.cons ry .nil), ?_,(keepT I8).2,w8⟩;exact T.keep _ _ _ (keepT I8).1 λb hb o e=>(hs9.2 b (below b (nfp b hb)).2).trans e
 exact codeAny_compStart_list (loop _ rfl) (T.self X.A 0 _ _ _ (T.keep _ _ _ st2 (λb _ o e=>old b o e)) (loop _ rfl))
theorem HP{x1 x2:Str}{px1 px2 ptu:Pos}{ktu:Nat}{iter elt:Expr}{ifs:List Expr}{scope sc:Scope}{N:List Str}{pos:Pos}{wi:TI}{tt:TT}{te:TE}{caps:List Nat}{ns:List Str}{K:FZ}
  (CS:CompScope2 N sc scope x1 x2 caps ns)(hN':X.N=N)(hsc:X.env.scope=sc)(hc:X.calm=true)(hi:PI X (.Tuple [.Name x1 px1,.Name x2 px2] ktu ptu) iter wi)
  (ht:∀cl C s H fp,PTs (X.comp (x1::x2::ns) scope cl C s H fp) ifs tt)(he:∀cl C s H fp,PE (X.comp (x1::x2::ns) scope cl C s H fp) elt te)
  (hs:∀v,foldedSetIterable iter X.env v=pure v:=by intro _;rfl)(hK:X.K=K:=by rfl):
  PE X (.ListComp elt [⟨.Tuple [.Name x1 px1,.Name x2 px2] ktu ptu,iter,ifs,0⟩] scope pos) (bbZ K wi caps tt te):=by
 intro pins s σ H Q I h;subst hN';subst hsc;subst hK;rw[eval_ListComp];refine QF CS hc hi ht he hs I h ?_;rintro D C s' H' ys I' hD r ⟨m,hn⟩ c1 c2 c3 c4 c5;exact⟨m,hn,λh' hs'=>⟨.ref D,_,I'.turned (t':=s'.toks) (λb o hb e=>(hs'.2 b hb).trans e) c1 c2 (.inr c3) c4 c5,rfl,r D hD⟩⟩
variable{K:FZ}
theorem U1:OpR X (binaryOp .Mult) (rI IntMulOk λi j=> .int (i*j)):=opI λ_ _ _ _ _ _ _ hc q=>mul_int q hc
theorem C0:OpR X (binaryOp .FloorDiv) (rI (λ_ j=>j≠0/\j.natAbs.log2<9000) λi j=> .int (i.fdiv j)):=opI λ_ _ _ _ _ _ _ hc q=>floordiv_int hc.1 q (.inl (PyProof.noPylong_of_log2 hc.2))
end
end _L
namespace Att
open PySem PySem.W PySem.Calls PyProof.Rows
end Att
namespace _L
open PySem PySem.Spec PyProof.Rows
section
variable{X:Cx}{K:FZ}
noncomputable def FU(K:FZ):R2:=λx y H Q=>∃a b ys,x=.ref a/\y=.ref b/\SqT K H a []/\SqT K H b ys/\Q (.ref b) H
theorem XF:OpR X (binaryOp .Add) (FU X.K):=by
 intro pins s σ H x y v u Q I rx ry h;obtain⟨a,b,ys,rfl,rfl,ha,hb,q⟩:=h;cases rx;cases ry;obtain⟨its,r1,p1,_⟩:=I.tuple ha;obtain⟨its2,r2,p2,hz⟩:=I.tuple hb;have e0:its=[]:=r1.nil_iff.mpr rfl;subst e0;obtain⟨⟨cls,dd,data,sl⟩,ho,hc,n,hd⟩:=id p1;obtain⟨⟨cls2,dd2,data2,sl2⟩,ho2,hc2,n2,hd2⟩:=id p2;simp only at hc hd hc2 hd2;subst hc hd hc2 hd2;exact concat_meets ⟨_,ho,rfl⟩ ⟨_,ho2,rfl⟩ noFill_tuple_add seq_tuple_add PySem.F.slot_tuple_add PySem.F.entry_tuple_add (PySem.F.args_tuple_add_2 _ _)
  (tuple_addW0 a b _ _ n n2 dd dd2 sl sl2 (by simp)) ⟨ho,ho2,⟨.ref b,H,I,rfl,q⟩⟩
theorem E4(hK:X.K=K:=by rfl):OpR X (binaryOp .Add) (λx y H Q=>rI0 (λi j=> .int (i+j)) x y H Q\/GN K x y H Q\/FU K x y H Q):=by
 subst hK;exact op_add.or (op_catT.or XF)
end
end _L
namespace PySem
open AutoSeq1 (wpAny_loadPart')
section
variable{prog:Program}{w:World}{A:Around}{E:Value->Shared->Prop}{s:Shared}
end
end PySem
namespace PySem
section
variable{prog:Program}{w:World}{A:Around}{E:Value->Shared->Prop}{s:Shared}
end
end PySem
namespace _L
open PySem PySem.Spec PyProof.Rows
section
variable{X:Cx}{K:FZ}{elts:List Expr}{kt:Nat}{pt:Pos}
end
end _L
namespace PySem
open Sem(wp)
namespace ZT
noncomputable def IsIt(t:Bool)(h:Heap)(i l:Addr)(k:Nat):Prop:=if t then h.IsTupleIter i l k else h.IsListIter i l k
noncomputable def IsSq(t:Bool)(h:Heap)(l:Addr)(xs:Array Value):Prop:=if t then h.IsTuple l xs else h.IsList l xs
theorem IsIt.extBut{t:Bool}{h h':Heap}{i b l:Addr}{k:Nat}(x:IsIt t h i l k)(hs:Heap.ExtBut b h h')(hb:i≠b):IsIt t h' i l k:=by
 cases t
 ·exact Heap.IsListIter.extBut (show h.IsListIter i l k from x) hs hb
 ·exact Heap.IsTupleIter.extBut (show h.IsTupleIter i l k from x) hs hb
theorem IsIt.at{t:Bool}{h h':Heap}{i l:Addr}{k:Nat}(x:IsIt t h i l k)(e:∀o,h.get? i=some o->h'.get? i=some o):IsIt t h' i l k:=by
 cases t
 ·obtain⟨o,ho,r⟩:=(show h.IsListIter i l k from x);exact⟨o,e o ho,r⟩
 ·obtain⟨o,ho,r⟩:=(show h.IsTupleIter i l k from x);exact⟨o,e o ho,r⟩
theorem IsIt.live{t:Bool}{h:Heap}{i l:Addr}{k:Nat}(x:IsIt t h i l k):∃o,h.get? i=some o:=by
 cases t
 ·obtain⟨o,ho,r⟩:=(show h.IsListIter i l k from x);exact⟨o,ho⟩
 ·obtain⟨o,ho,r⟩:=(show h.IsTupleIter i l k from x);exact⟨o,ho⟩
theorem IsSq.at{t:Bool}{h h':Heap}{l:Addr}{xs:Array Value}(x:IsSq t h l xs)(e:∀o,h.get? l=some o->h'.get? l=some o):IsSq t h' l xs:=by
 cases t
 ·obtain⟨o,ho,r⟩:=(show h.IsList l xs from x);exact⟨o,e o ho,r⟩
 ·obtain⟨o,ho,r⟩:=(show h.IsTuple l xs from x);exact⟨o,e o ho,r⟩
theorem IsSq.extBut{t:Bool}{h h':Heap}{l b:Addr}{xs:Array Value}(x:IsSq t h l xs)(hs:Heap.ExtBut b h h')(hb:l≠b):IsSq t h' l xs:=x.at λo e=>hs l o hb e
section
variable{prog:Program}{w:World}{A:Around}{E:Value->Shared->Prop}{s:Shared}
theorem EX{it t:Addr}{i:Nat}{items}{x:Value}{Q:Value->Shared->Prop}(hit:s.heap.IsTupleIter it t i)
  (ht:s.heap.IsTuple t items)(hx:items[i]? =some x)
  (hQ:∀h',h'.IsTupleIter it t (i+1)->Heap.SameBut it s.heap h'->Q x {s with heap:=h'}):
  wpAny (model prog w) A (Builtin.SmallTypes.nextOf (.ref it)) Q E s:=by
 obtain⟨o,ho,hc,hd⟩:=id hit;obtain⟨ol,hol,_,nl,hdl⟩:=ht;unfold Builtin.SmallTypes.nextOf;refine bZ (wpAny_callSpecial?_slot (name:=Str.ofString "__next__") hit.typeIs F.slot_tuple_iterator_next
  (wpAny_call_entry F.slot_tuple_iterator_next hit.typeIs F.entry_tuple_iterator_next ?_ (F.args_tuple_iterator_next_1 _)))
 show wpAny _ _ (field (.ref it) 0>>=_) _ _ s;refine bZ (wpAny_field ho hd (x:=.ref t) rfl ?_);show wpAny _ _ (if(Value.ref t==Value.none)=true then _ else _) _ _ s;rw[if_neg (show¬((Value.ref t==Value.none)=true)from nZ)];show wpAny _ _ (field (.ref it) 1>>=_) _ _ s;refine bZ (wpAny_field ho hd (x:=.int i 0) rfl ?_);show wpAny _ _ (seqItems? (.ref t)>>=_) _ _ s;refine bZ (wpAny_seqItems hol hdl ?_);simp only[Int.toNat_natCast,hx];refine bZ (wpAny_setField ho hd (by simp) (pZ ⟨x,rfl,pZ (hQ _ ?_ (Heap.SameBut.update ..))⟩));exact⟨_,get?_update_self _ ho (Obj.isFreed_of_fields (Obj.data_mapFields hd _)),(Obj.cls_mapFields ..).trans hc,by
  rw[Obj.data_mapFields hd];simp[rawInt]⟩
theorem FX{it t:Addr}{i:Nat}{items}{Q:Value->Shared->Prop}(hh:A.handled=none)
  (hit:s.heap.IsTupleIter it t i)(ht:s.heap.IsTuple t items)(hx:items[i]? =none)
  (hE:∀h' e,Heap.ExtBut it s.heap h'->(∃o,h'.get? e=some o/\o.cls=.type "StopIteration")->E (.ref e) {s with heap:=h'}):
  wpAny (model prog w) A (Builtin.SmallTypes.nextOf (.ref it)) Q E s:=by
 obtain⟨o,ho,hc,hd⟩:=id hit;obtain⟨ol,hol,_,nl,hdl⟩:=ht;unfold Builtin.SmallTypes.nextOf;refine bZ (wpAny_callSpecial?_slot (name:=Str.ofString "__next__") hit.typeIs F.slot_tuple_iterator_next
  (wpAny_call_entry F.slot_tuple_iterator_next hit.typeIs F.entry_tuple_iterator_next ?_ (F.args_tuple_iterator_next_1 _)))
 show wpAny _ _ (field (.ref it) 0>>=_) _ _ s;refine bZ (wpAny_field ho hd (x:=.ref t) rfl ?_);show wpAny _ _ (if(Value.ref t==Value.none)=true then _ else _) _ _ s;rw[if_neg (show¬((Value.ref t==Value.none)=true)from nZ)];show wpAny _ _ (field (.ref it) 1>>=_) _ _ s;refine bZ (wpAny_field ho hd (x:=.int i 0) rfl ?_);show wpAny _ _ (seqItems? (.ref t)>>=_) _ _ s;refine bZ (wpAny_seqItems hol hdl ?_);simp only[Int.toNat_natCast,hx];refine bZ (wpAny_rule (bZ (wpAny_setField ho hd (by simp) ?_)));show wpAny _ _ (newExc (.type "StopIteration") []>>=_) _ _ _;refine bZ ?_;simp only[newExc,newTuple];refine bZ (wpAny_newObj_type ?_ (by size_fits));refine bZ (m:=firstArgMember _ _) (wpAny_of_eq (a:=Value.none) (by first|rfl|(simp only[firstArgMember];rfl)) ?_);refine wpAny_newObj_type ?_ (by size_fits);simp only[raiseNew];refine bZ (wpAny_handled ?_)
 first|rw[show A.in1.handled=none from hh]|rw[hh]
 refine bZ (pZ (wpAny_throw ?_));exact hE _ _ (((Heap.SameBut.update ..).extBut.push _).push _) ⟨_,get?_push_size _ rfl,rfl⟩
theorem R8{t:Bool}{it l:Addr}{i:Nat}{items}{x:Value}{Q:Value->Shared->Prop}(hit:IsIt t s.heap it l i)
  (ht:IsSq t s.heap l items)(hx:items[i]? =some x)
  (hQ:∀h',IsIt t h' it l (i+1)->Heap.SameBut it s.heap h'->Q x {s with heap:=h'}):
  wpAny (model prog w) A (Builtin.SmallTypes.nextOf (.ref it)) Q E s:=by
 cases t
 ·exact wpAny_nextOf_list_item hit ht hx hQ
 ·exact EX hit ht hx hQ
theorem EO{t:Bool}{it l:Addr}{i:Nat}{items}{Q:Value->Shared->Prop}(hh:A.handled=none)(hit:IsIt t s.heap it l i)
  (ht:IsSq t s.heap l items)(hx:items[i]? =none)
  (hE:∀h' e,Heap.ExtBut it s.heap h'->(∃o,h'.get? e=some o/\o.cls=.type "StopIteration")->E (.ref e) {s with heap:=h'}):
  wpAny (model prog w) A (Builtin.SmallTypes.nextOf (.ref it)) Q E s:=by
 cases t
 ·exact wpAny_nextOf_list_end hh hit ht hx hE
 ·exact FX hh hit ht hx hE
end
end ZT
end PySem
namespace PySem
open Sem (wp)
namespace ZT
noncomputable abbrev IsZ(h:Heap)(z TI TO:Addr)(f0 f1:Value):Prop:=
 h.get? z=some {cls:=.type "zip",dict:=none,data:=.fields #[f0,f1,.bool false,.ref TI,.ref TO],slots:= #[]}
section
variable{prog:Program}{w:World}{A:Around}{E:Value->Shared->Prop}{s:Shared}
theorem MW{M:Model}{a:Addr}{Q:Option Obj->Shared->Prop}(h:Q (s.heap.get? a) s):wpAny M A (loadIfAlive a) Q E s:=fun Γ p _=>by
 unfold loadIfAlive;rw[Sem.wp_loadIfAlive];rw[Sem.wp];exact h
theorem MK{z TI TO T:Addr}{b:Bool}{Q:Bool->Shared->Prop}(hz:IsZ s.heap z TI TO (rawInt T) (.bool b))(hT:∃o,s.heap.get? T=some o)
  (hQ:∀h',IsZ h' z TI TO (rawInt T) (.bool true)->Heap.SameBut z s.heap h'->Q false {s with heap:=h'}):
  wpAny (model prog w) A (Builtin.SmallTypes.ownedTupleIsFree (.ref z)) Q E s:=by
 obtain⟨o,ho⟩:=hT;unfold Builtin.SmallTypes.ownedTupleIsFree;refine bZ (wpAny_field hz rfl (x:=rawInt T) rfl ?_);show wpAny _ _ (loadIfAlive T>>=_) _ _ _;refine bZ (MW ?_);rw[ho];simp only[Option.isNone_some,Bool.false_eq_true,if_false];refine bZ (wpAny_field hz rfl (x:=.bool b) rfl ?_);cases b
 ·rw[if_pos (by decide)];exact bZ (wpAny_setField_rec hz (by simp) λh' hz' hs'=>pZ (hQ h' hz' hs'))
 ·rw[if_neg (by decide)];exact pZ (hQ s.heap hz ⟨rfl,λ_ _=>rfl⟩)
theorem TV{t1 t2:Bool}{z TI TO i1 i2 l1 l2 T:Addr}{k1 k2:Nat}{xs ys:Array Value}{x y:Value}{b:Bool}{Q:Value->Shared->Prop}(D:ZipApart z TI TO i1 i2 l1 l2)
  (hz:IsZ s.heap z TI TO (rawInt T) (.bool b))(hT:∃o,s.heap.get? T=some o)(hTI:IsPair s.heap TI (.ref i1) (.ref i2))
  (h1:IsIt t1 s.heap i1 l1 k1)(h2:IsIt t2 s.heap i2 l2 k2)(hl1:IsSq t1 s.heap l1 xs)(hl2:IsSq t2 s.heap l2 ys)(hx:xs[k1]? =some x)(hy:ys[k2]? =some y)
  (hQ:∀h',IsZ h' z TI TO (rawInt T) (.bool true)->IsIt t1 h' i1 l1 (k1+1)->IsIt t2 h' i2 l2 (k2+1)->IsPair h' s.heap.objs.size x y->h'.objs.size=s.heap.objs.size+1->
   (∀c o,c≠z->c≠i1->c≠i2->s.heap.get? c=some o->h'.get? c=some o)->Q (.ref s.heap.objs.size) {s with heap:=h'}):
  wpAny (model prog w) A (Builtin.«zip.__next__» ⟨[.ref z],[]⟩) (λfin s'=>∃v,fin=.done (.ret v)/\Q v s') E s:=by
 show wpAny _ _ (field (.ref z) 2>>=_) _ _ _;refine bZ (wpAny_field hz rfl (x:=.bool false) rfl ?_);show wpAny _ _ (field (.ref z) 3>>=_) _ _ _;refine bZ (wpAny_field hz rfl (x:=.ref TI) rfl ?_);refine bZ (wpAny_seqItems hTI rfl ?_);show wpAny _ _ (Builtin.SmallTypes.ownedTupleIsFree (.ref z)>>=_) _ _ _;refine bZ (MK hz hT λh₁ hz₁ hs₁=> ?_);simp only[Bool.false_eq_true,if_false];refine bZ ?_;rw[<-Array.forIn_toList];simp only[forIn_cons,forIn_nil];refine bZ (bZ (wpAny_holding ?_));show wpAny _ _ (Builtin.SmallTypes.nextOf (.ref i1)>>=_) _ _ _;refine bZ (R8 (h1.extBut hs₁.extBut D.i1z) (hl1.extBut hs₁.extBut D.l1z) hx λh₂ h1₂ hs₂=>pZ (pZ ?_));refine bZ (bZ (wpAny_holding ?_));show wpAny _ _ (Builtin.SmallTypes.nextOf (.ref i2)>>=_) _ _ _;refine bZ (R8 ((h2.extBut hs₁.extBut D.i2z).extBut hs₂.extBut D.i12.symm) ((hl2.extBut hs₁.extBut D.l2z).extBut hs₂.extBut D.l2i1) hy λh₃ h2₃ hs₃=>pZ (pZ (pZ ?_)));refine bZ (wpAny_newTuple (pZ ⟨_,rfl, ?_⟩) (by show 2<=sizeLine;decide));have hsz:h₃.objs.size=s.heap.objs.size:=by rw[hs₃.1,hs₂.1,hs₁.1]
 have hz₃:IsZ h₃ z TI TO (rawInt T) (.bool true):=hs₃.extBut _ _ D.i2z.symm (hs₂.extBut _ _ D.i1z.symm hz₁);have hk:∀c o,c≠z->c≠i1->c≠i2->s.heap.get? c=some o->h₃.get? c=some o:=λc o c1 c2 c3 e=>hs₃.extBut _ _ c3 (hs₂.extBut _ _ c2 (hs₁.extBut _ _ c1 e));show Q (.ref h₃.objs.size) _;have hp:IsPair (h₃.push {cls:=.type "tuple",data:=.seq #[x,y]}) h₃.objs.size x y:=get?_push_size _ rfl;rw[hsz]at hp⊢;exact hQ _ (gZ _ hz₃) ((h1₂.extBut hs₃.extBut D.i12).at λo e=>gZ _ e) (h2₃.at λo e=>gZ _ e) hp (by rw[Heap.size_push,hsz]) λc o c1 c2 c3 e=>gZ _ (hk c o c1 c2 c3 e)
theorem YL{t1 t2:Bool}{z TI TO i1 i2 l1 l2 T:Addr}{k1 k2:Nat}{xs ys:Array Value}{b:Bool}{Q:Fin->Shared->Prop}(hh:A.handled=none)(D:ZipApart z TI TO i1 i2 l1 l2)
  (hz:IsZ s.heap z TI TO (rawInt T) (.bool b))(hT:∃o,s.heap.get? T=some o)(hTI:IsPair s.heap TI (.ref i1) (.ref i2))
  (h1:IsIt t1 s.heap i1 l1 k1)(h2:IsIt t2 s.heap i2 l2 k2)(hl1:IsSq t1 s.heap l1 xs)(hl2:IsSq t2 s.heap l2 ys)(hend:xs[k1]? =none\/ys[k2]? =none)
  (hE:∀h' e,(∀c o,c≠z->c≠i1->c≠i2->s.heap.get? c=some o->h'.get? c=some o)->(∃o,h'.get? e=some o/\o.cls=.type "StopIteration")->E (.ref e) {s with heap:=h'}):
  wpAny (model prog w) A (Builtin.«zip.__next__» ⟨[.ref z],[]⟩) Q E s:=by
 show wpAny _ _ (field (.ref z) 2>>=_) _ _ _;refine bZ (wpAny_field hz rfl (x:=.bool false) rfl ?_);show wpAny _ _ (field (.ref z) 3>>=_) _ _ _;refine bZ (wpAny_field hz rfl (x:=.ref TI) rfl ?_);refine bZ (wpAny_seqItems hTI rfl ?_);show wpAny _ _ (Builtin.SmallTypes.ownedTupleIsFree (.ref z)>>=_) _ _ _;refine bZ (MK hz hT λh₁ hz₁ hs₁=> ?_);simp only[Bool.false_eq_true,if_false];refine bZ ?_;rw[<-Array.forIn_toList];simp only[forIn_cons,forIn_nil];refine bZ (bZ (wpAny_holding ?_));show wpAny _ _ (Builtin.SmallTypes.nextOf (.ref i1)>>=_) _ _ _;cases hx:xs[k1]? with
 |none=>exact bZ (EO hh (h1.extBut hs₁.extBut D.i1z) (hl1.extBut hs₁.extBut D.l1z) hx λh₂ e hs₂ he=>hE h₂ e (λc o c1 c2 _ x=>hs₂ _ _ c2 (hs₁.extBut _ _ c1 x)) he)
 |some x=>
  have hy:ys[k2]? =none:=by rcases hend with h|h;rw[hx]at h;cases h;exact h
  refine bZ (R8 (h1.extBut hs₁.extBut D.i1z) (hl1.extBut hs₁.extBut D.l1z) hx λh₂ h1₂ hs₂=>pZ (pZ ?_));refine bZ (bZ (wpAny_holding ?_));show wpAny _ _ (Builtin.SmallTypes.nextOf (.ref i2)>>=_) _ _ _;exact bZ (EO hh ((h2.extBut hs₁.extBut D.i2z).extBut hs₂.extBut D.i12.symm) ((hl2.extBut hs₁.extBut D.l2z).extBut hs₂.extBut D.l2i1) hy λh₃ e hs₃ he=>hE h₃ e (λc o c1 c2 c3 x=>hs₃ _ _ c3 (hs₂.extBut _ _ c2 (hs₁.extBut _ _ c1 x))) he)
theorem PD{t1 t2:Bool}{z TI TO i1 i2 l1 l2:Addr}{k1 k2:Nat}{xs ys:Array Value}{x y a b:Value}{Q:Value->Shared->Prop}(D:ZipApart z TI TO i1 i2 l1 l2)
  (hz:IsZ s.heap z TI TO .none (.bool false))(hTI:IsPair s.heap TI (.ref i1) (.ref i2))(hTO:IsPair s.heap TO a b)
  (h1:IsIt t1 s.heap i1 l1 k1)(h2:IsIt t2 s.heap i2 l2 k2)(hl1:IsSq t1 s.heap l1 xs)(hl2:IsSq t2 s.heap l2 ys)(hx:xs[k1]? =some x)(hy:ys[k2]? =some y)
  (hQ:∀h' b,IsZ h' z TI TO (rawInt s.heap.objs.size) (.bool b)->IsIt t1 h' i1 l1 (k1+1)->IsIt t2 h' i2 l2 (k2+1)->IsPair h' s.heap.objs.size x y->h'.objs.size=s.heap.objs.size+1->
   (∀c o,c≠z->c≠TO->c≠i1->c≠i2->s.heap.get? c=some o->h'.get? c=some o)->IsPair h' TO x y->Q (.ref s.heap.objs.size) {s with heap:=h'}):
  wpAny (model prog w) A (Builtin.«zip.__next__» ⟨[.ref z],[]⟩) (λfin s'=>∃v,fin=.done (.ret v)/\Q v s') E s:=by
 show wpAny _ _ (field (.ref z) 2>>=_) _ _ _;refine bZ (wpAny_field hz rfl (x:=.bool false) rfl ?_);show wpAny _ _ (field (.ref z) 3>>=_) _ _ _;refine bZ (wpAny_field hz rfl (x:=.ref TI) rfl ?_);refine bZ (wpAny_seqItems hTI rfl ?_);show wpAny _ _ (Builtin.SmallTypes.ownedTupleIsFree (.ref z)>>=_) _ _ _;refine bZ ?_;unfold Builtin.SmallTypes.ownedTupleIsFree;refine bZ (wpAny_field hz rfl (x:=.none) rfl (pZ ?_));simp only[if_true];refine bZ (wpAny_rule ?_);refine bZ (wpAny_field hz rfl (x:=.ref TO) rfl ?_);refine bZ (wpAny_setField_rec hz (by simp) λg₁ z₁ q₁=> ?_);replace z₁:IsZ g₁ z TI TO .ellipsis (.bool false):=z₁;have p₁:IsPair g₁ TO a b:=q₁.extBut _ _ D.TOz hTO;refine bZ ?_;simp only[List.zipIdx_cons,List.zipIdx_nil,forIn_cons,forIn_nil];refine bZ (bZ (wpAny_onRaise ?_));show wpAny _ _ (Builtin.SmallTypes.nextOf (.ref i1)>>=_) _ _ _;refine bZ (R8 (h1.extBut q₁.extBut D.i1z) (hl1.extBut q₁.extBut D.l1z) hx λg₂ it₂ q₂=>pZ ?_);have p₂:IsPair g₂ TO a b:=q₂.extBut _ _ D.TOi1 p₁;refine bZ (wpAny_seqItems p₂ rfl (bZ (wpAny_updateSeq_pair p₂ λg₃ p₃ q₃=>bZ (wpAny_letGo (pZ ?_)))));replace p₃:IsPair g₃ TO x b:=p₃;have k₃:∀ {c o},c≠z->c≠i1->c≠TO->s.heap.get? c=some o->g₃.get? c=some o:=λc1 c2 c3 e=>q₃.extBut _ _ c3 (q₂.extBut _ _ c2 (q₁.extBut _ _ c1 e));refine bZ (bZ (wpAny_onRaise ?_));show wpAny _ _ (Builtin.SmallTypes.nextOf (.ref i2)>>=_) _ _ _;refine bZ (R8 (h2.at λo e=>k₃ D.i2z D.i12.symm D.TOi2.symm e) (hl2.at λo e=>k₃ D.l2z D.l2i1 D.l2TO e) hy λg₄ it₄ q₄=>pZ ?_);have p₄:IsPair g₄ TO x b:=q₄.extBut _ _ D.TOi2 p₃;refine bZ (wpAny_seqItems p₄ rfl (bZ (wpAny_updateSeq_pair p₄ λg₅ p₅ q₅=>bZ (wpAny_letGo (pZ (pZ ?_))))));replace p₅:IsPair g₅ TO x y:=p₅;refine bZ (wpAny_seqItems p₅ rfl (bZ (wpAny_newTuple ?_)));have sz:g₅.objs.size=s.heap.objs.size:=by rw[q₅.1,q₄.1,q₃.1,q₂.1,q₁.1]
 have z₅:IsZ g₅ z TI TO .ellipsis (.bool false):=q₅.extBut _ _ D.TOz.symm (q₄.extBut _ _ D.i2z.symm (q₃.extBut _ _ D.TOz.symm (q₂.extBut _ _ D.i1z.symm z₁)));have k₅:∀c o,c≠z->c≠TO->c≠i1->c≠i2->s.heap.get? c=some o->g₅.get? c=some o:=λc o c1 c2 c3 c4 e=>q₅.extBut _ _ c2 (q₄.extBut _ _ c4 (k₃ c1 c3 c2 e));have it1:IsIt t1 g₅ i1 l1 (k1+1):=it₂.at λo e=>q₅.extBut _ _ D.TOi1.symm (q₄.extBut _ _ D.i12 (q₃.extBut _ _ D.TOi1.symm e));have it2:IsIt t2 g₅ i2 l2 (k2+1):=it₄.at λo e=>q₅.extBut _ _ D.TOi2.symm e;have zlt:z<g₅.objs.size:=lt_size z₅;show wpAny _ _ (Builtin.SmallTypes.ownedTupleHandOut (.ref z) (.ref g₅.objs.size)>>=_) _ _ _;refine bZ ?_;unfold Builtin.SmallTypes.ownedTupleHandOut;refine bZ (wpAny_setField_rec (gZ _ z₅) (by simp) λg₇ z₇ q₇=> ?_);replace z₇:IsZ g₇ z TI TO (rawInt g₅.objs.size) (.bool false):=z₇;refine wpAny_setField_rec z₇ (by simp) λg₈ z₈ q₈=>pZ ⟨_,rfl, ?_⟩;replace z₈:IsZ g₈ z TI TO (rawInt g₅.objs.size) (.bool false):=z₈;have up:∀c o,c≠z->g₅.get? c=some o->g₈.get? c=some o:=λc o c1 e=>q₈.extBut _ _ c1 (q₇.extBut _ _ c1 (gZ _ e));have pT:IsPair g₈ g₅.objs.size x y:=q₈.extBut _ _ (Nat.ne_of_gt zlt) (q₇.extBut _ _ (Nat.ne_of_gt zlt) (get?_push_size _ rfl));have s8:g₈.objs.size=g₅.objs.size+1:=by rw[q₈.1,q₇.1,Heap.size_push]
 show Q (.ref g₅.objs.size) _;rw[sz]at z₈ pT s8⊢;exact hQ g₈ false z₈ (it1.at λo e=>up _ o D.i1z e) (it2.at λo e=>up _ o D.i2z e) pT s8 (λc o c1 c2 c3 c4 e=>up c o c1 (k₅ c o c1 c2 c3 c4 e)) (up _ _ D.TOz p₅)
end
end ZT
end PySem
namespace PySem
open Sem (wp)
open PyProof.Rows
namespace ZT
section
variable{prog:Program}{w:World}{A:Around}{E:Value->Shared->Prop}{s:Shared}
theorem NO{t1 t2:Bool}{z TI TO i1 i2 l1 l2 T:Addr}{k1 k2:Nat}{xs ys:Array Value}{x y:Value}{b:Bool}{Q:Option Value->Shared->Prop}(D:ZipApart z TI TO i1 i2 l1 l2)
  (hz:IsZ s.heap z TI TO (rawInt T) (.bool b))(hT:∃o,s.heap.get? T=some o)(hTI:IsPair s.heap TI (.ref i1) (.ref i2))
  (h1:IsIt t1 s.heap i1 l1 k1)(h2:IsIt t2 s.heap i2 l2 k2)(hl1:IsSq t1 s.heap l1 xs)(hl2:IsSq t2 s.heap l2 ys)(hx:xs[k1]? =some x)(hy:ys[k2]? =some y)
  (hQ:∀h',IsZ h' z TI TO (rawInt T) (.bool true)->IsIt t1 h' i1 l1 (k1+1)->IsIt t2 h' i2 l2 (k2+1)->IsPair h' s.heap.objs.size x y->h'.objs.size=s.heap.objs.size+1->
   (∀c o,c≠z->c≠i1->c≠i2->s.heap.get? c=some o->h'.get? c=some o)->Q (some (.ref s.heap.objs.size)) {s with heap:=h'}):
  wpAny (model prog w) A (pyNext (.ref z)) Q E s:=by
 have ty:s.TypeIs (.ref z) "zip":=⟨_,hz,rfl⟩;unfold pyNext;exact bZ (wpAny_attempt (wpAny_callSpecial?_slot (name:=Str.ofString "__next__") ty F.slot_zip_next
  (wpAny_call_entry F.slot_zip_next ty F.entry_zip_next (TV D hz hT hTI h1 h2 hl1 hl2 hx hy λh' a1 a2 a3 a4 a5 a6=>pZ (hQ h' a1 a2 a3 a4 a5 a6)) (F.args_zip_next_1 _))))
theorem LF{t1 t2:Bool}{z TI TO i1 i2 l1 l2:Addr}{k1 k2:Nat}{xs ys:Array Value}{x y a b:Value}{Q:Option Value->Shared->Prop}(D:ZipApart z TI TO i1 i2 l1 l2)
  (hz:IsZ s.heap z TI TO .none (.bool false))(hTI:IsPair s.heap TI (.ref i1) (.ref i2))(hTO:IsPair s.heap TO a b)
  (h1:IsIt t1 s.heap i1 l1 k1)(h2:IsIt t2 s.heap i2 l2 k2)(hl1:IsSq t1 s.heap l1 xs)(hl2:IsSq t2 s.heap l2 ys)(hx:xs[k1]? =some x)(hy:ys[k2]? =some y)
  (hQ:∀h' b,IsZ h' z TI TO (rawInt s.heap.objs.size) (.bool b)->IsIt t1 h' i1 l1 (k1+1)->IsIt t2 h' i2 l2 (k2+1)->IsPair h' s.heap.objs.size x y->h'.objs.size=s.heap.objs.size+1->
   (∀c o,c≠z->c≠TO->c≠i1->c≠i2->s.heap.get? c=some o->h'.get? c=some o)->IsPair h' TO x y->Q (some (.ref s.heap.objs.size)) {s with heap:=h'}):
  wpAny (model prog w) A (pyNext (.ref z)) Q E s:=by
 have ty:s.TypeIs (.ref z) "zip":=⟨_,hz,rfl⟩;unfold pyNext;exact bZ (wpAny_attempt (wpAny_callSpecial?_slot (name:=Str.ofString "__next__") ty F.slot_zip_next
  (wpAny_call_entry F.slot_zip_next ty F.entry_zip_next (PD D hz hTI hTO h1 h2 hl1 hl2 hx hy λh' b a1 a2 a3 a4 a5 a6 a7=>pZ (hQ h' b a1 a2 a3 a4 a5 a6 a7)) (F.args_zip_next_1 _))))
theorem pyNext_end{t1 t2:Bool}{z TI TO i1 i2 l1 l2 T:Addr}{k1 k2:Nat}{xs ys:Array Value}{b:Bool}{Q:Option Value->Shared->Prop}(hh:A.handled=none)(D:ZipApart z TI TO i1 i2 l1 l2)
  (hz:IsZ s.heap z TI TO (rawInt T) (.bool b))(hT:∃o,s.heap.get? T=some o)(hTI:IsPair s.heap TI (.ref i1) (.ref i2))
  (h1:IsIt t1 s.heap i1 l1 k1)(h2:IsIt t2 s.heap i2 l2 k2)(hl1:IsSq t1 s.heap l1 xs)(hl2:IsSq t2 s.heap l2 ys)(hend:xs[k1]? =none\/ys[k2]? =none)
  (hQ:∀h',(∀c o,c≠z->c≠i1->c≠i2->s.heap.get? c=some o->h'.get? c=some o)->Q none {s with heap:=h'}):
  wpAny (model prog w) A (pyNext (.ref z)) Q E s:=by
 have ty:s.TypeIs (.ref z) "zip":=⟨_,hz,rfl⟩;unfold pyNext;refine bZ (wpAny_attempt (wpAny_callSpecial?_slot (name:=Str.ofString "__next__") ty F.slot_zip_next
  (wpAny_call_entry F.slot_zip_next ty F.entry_zip_next (YL hh D hz hT hTI h1 h2 hl1 hl2 hend λh' e hk he=> ?_) (F.args_zip_next_1 _))))
 obtain⟨o,ho,hc⟩:=he;exact bZ (wpAny_isInstance (T:="StopIteration") (b:=true) ⟨o,ho,hc⟩ isSubtype_stop (pZ (hQ _ hk)))
end
theorem nn{a b:Nat}(h:a≠b): @Ne Addr a b:=h
structure Had (N:Nat) (h0 h:Heap) (xs ys:Array Value) (i:Nat) (acc:Array Value) (c:Nat):Prop where
 old:∀a o,a<N->h0.get? a=some o->h.get? a=some o
 lst:h.get? (N+5)=some {cls:=.type "list",dict:=none,data:=.seq acc c,slots:= #[]}
 len:acc.size=i
 prs:∀j x y,j<i->xs[j]? =some x->ys[j]? =some y->∃p,acc[j]? =some (.ref p)/\IsPair h p x y/\N+5<p
section
variable{prog:Program}{w:World}{A:Around}{R:Result->Shared->Prop}{s:Shared}
end
end ZT
end PySem
namespace PySem
open Sem(wp)
open PyProof.Rows
namespace F
theorem nolen_zip:typeLookup (.type "zip") "__len__"=pure none:=by rw[typeLookup_type,builtinLookup_eq_fast];kernel_rfl
theorem nohint_zip:typeLookup (.type "zip") "__length_hint__"=pure none:=by rw[typeLookup_type,builtinLookup_eq_fast];kernel_rfl
end F
namespace ZT
noncomputable abbrev itO(t:Bool)(l:Addr):Obj:=if t then {cls:=.type "tuple_iterator",data:=.fields #[.ref l,.int 0 0]}else {cls:=.type "list_iterator",data:=.fields #[.ref l,.int 0 0]}
section
variable{prog:Program}{w:World}{A:Around}{E:Value->Shared->Prop}{s:Shared}
end
end ZT
end PySem
namespace PySem
open Sem(wp)
open PyProof.Rows
namespace ZT
section
variable{prog:Program}{w:World}{A:Around}{E:Value->Shared->Prop}{s:Shared}
end
end ZT
end PySem
namespace _L
open PySem PySem.Spec PyProof.Rows
section
variable{X:Cx}{K:FZ}{pins:List (Addr×Obj)}{σ:St}{H H':Hp}{s:Shared}{h':Heap}
theorem Inv.laidMany{t':Nat}(I:Inv X pins σ H s)(k:∀b u,s.heap.get? b=some u->h'.get? b=some u)(sm:∀b o,H b=some o->H' b=some o)(lo:∀b,b<s.heap.objs.size->H b=none->H' b=none)
  (new:∀b o,H b=none->H' b=some o->ObjOk X.prog X.w H' h' b o):Inv X pins σ H' {s with heap:=h',toks:=t'}:=by
 refine I.un ⟨λb u q _ _ _=>k b u q,λb u q _ _ _=>⟨u.slots,k b u q⟩,λb u q n _=>lo b (lt_size q) n,λb u q _=>⟨u,k b u q⟩,λb xs q=>sm _ _ q,λb u xs q=>sm _ _ q,λb ps q=>⟨#[],by rw[sm _ _ q];simp⟩⟩ λb o e=> ?_;cases hb:H b with
 |none=>exact new b o hb e
 |some u=>
  rw[sm _ _ hb]at e;cases e;exact(I.hok b _ hb).stay (λc v _ q=>k c v q) (λc q=>sm _ _ q) λc xs q=>sm _ _ q
variable{A:Around}{E:Value->Shared->Prop}{Q:Value->Shared->Prop}{b:Bool}
theorem PY{x c d:V}{u t u1 u2:Value}{p:Addr}(I:Inv X pins σ H s)(rx:RelV x u)(hp:SqT X.K H p [c,d])(r1:∀v,RelV c v->v=u1)(r2:∀v,RelV d v->v=u2)(ty:TyOf X.K H x t)(e:kitAny X.K t [u1,u2]=some b)(hx:u≠ .builtin "__main__.__loader__#opaque")(h:∀tk,Q (.bool b) {s with toks:=tk}):
  wpAny (model X.prog X.w) A (call (.builtin "isinstance") [u,.ref p]) Q E s:=by
 obtain⟨its,r,⟨⟨cl,dd,da,sl⟩,hg,hc,n,hd⟩,_⟩:=I.tuple hp;simp only at hc hd;subst hc hd;obtain⟨w1,w2,rfl,q1,q2⟩:=VH r;cases r1 _ q1;cases r2 _ q2;cases ty with
 |non=>cases(show u=Value.none from rx);exact kia_tup PySem.W.kitx_none I.kIn True.intro hg e hx h
 |bl y=>cases(show u=Value.bool y from rx);exact kia_tup PySem.W.kitx_bool I.kIn True.intro hg e hx h
 |int i=>obtain⟨t,q⟩:=(show∃t,u=Value.int i t from rx);cases q;exact kia_tup PySem.W.kitx_int I.kIn True.intro hg e hx h
 |str y=>obtain⟨t,q⟩:=(show∃t,u=Value.str y t from rx);cases q;exact kia_tup PySem.W.kitx_str I.kIn True.intro hg e hx h
 |flt y=>obtain⟨t,q⟩:=(show∃t,u=Value.float y t from rx);cases q;exact kia_tup PySem.W.kitx_float I.kIn True.intro hg e hx h
 | @lst a xs ea=>
  cases(show u=Value.ref a from rx);obtain⟨_,_,n,_,h1⟩:=(show ObjOk X.prog X.w H s.heap a (.lst xs)from I.hok a _ ea);exact kia_tup kitx_list I.kIn ⟨_,h1,rfl⟩ hg e hx h
 | @frz a ob xs ea=>
  cases(show u=Value.ref a from rx);obtain⟨_,_,_,n,_,h1⟩:=(show ObjOk X.prog X.w H s.heap a (.frz ob (.lst xs))from I.hok a _ ea);exact kia_tup kitx_list I.kIn ⟨_,h1,rfl⟩ hg e hx h
 | @tup a xs ea=>
  cases(show u=Value.ref a from rx);obtain⟨_,_,_,p⟩:=(show ObjOk X.prog X.w H s.heap a (.tup xs)from I.hok a _ ea);obtain⟨o,h1,h2,_⟩:=p;exact kia_tup PySem.W.kitx_tuple I.kIn ⟨o,h1,h2⟩ hg e hx h
 | @dK a kvs ea=>
  cases(show u=Value.ref a from rx);obtain⟨_,_,vs,_,p⟩:=(show ObjOk X.prog X.w H s.heap a (.dK kvs)from I.hok a _ ea);obtain⟨o,es,ep,h1,h2,_⟩:=p;exact kia_tup kitx_dict I.kIn ⟨o,h1,h2.1⟩ hg e hx h
 | @dT a kvs ea=>
  cases(show u=Value.ref a from rx);obtain⟨_,_,xs,_,o,es,ep,h1,h2,_⟩:=(show ObjOk X.prog X.w H s.heap a (.dT kvs)from I.hok a _ ea);exact kia_tup kitx_dict I.kIn ⟨o,h1,h2.1⟩ hg e hx h
 | @ins a C dx fs ea cl ha hn htk hm=>
  cases(show u=Value.ref a from rx);obtain⟨mA,O,_⟩:=LR I.hok ea;obtain⟨od,J,_⟩:=O.look;exact kia_tup (PySem.W.kitx_own (cl.get _) cl.hd ha hn htk hm) I.kIn J hg e hx h
theorem PC{x:V}{u t:Value}(rx:RelV x u)(ty:TyOf K H x t):u≠ .builtin "__main__.__loader__#opaque":=by
 cases ty with
 |non=>cases(show u=Value.none from rx);exact λz=>nomatch z
 |bl y=>cases(show u=Value.bool y from rx);exact λz=>nomatch z
 |int i=>obtain⟨t,q⟩:=(show∃t,u=Value.int i t from rx);cases q;exact λz=>nomatch z
 |str y=>obtain⟨t,q⟩:=(show∃t,u=Value.str y t from rx);cases q;exact λz=>nomatch z
 |flt y=>obtain⟨t,q⟩:=(show∃t,u=Value.float y t from rx);cases q;exact λz=>nomatch z
 |lst|frz|tup|dK|dT|ins=>cases rx;exact λz=>nomatch z
theorem TC:S7 X (.builtin "isinstance") (λxs H Q=>∃x c d t b p,xs=[x,.ref p]/\SqT X.K H p [.ty c,.ty d]/\TyOf X.K H x t/\kitAny X.K t [.type c,.type d]=some b/\Q (.bl b) H):=by
 intro pins s σ H xs us Q I r h;obtain⟨x,c,d,t,b,p,rfl,hp,ty,hk,q⟩:=h;obtain⟨u,v,rfl,ru,rv⟩:=VH r;cases rv;exact PY I ru hp (λv h=>by cases h;rfl) (λv h=>by cases h;rfl) ty hk (PC ru ty) λtk=>⟨.bl b,H,I.tok _,rfl,q⟩
theorem XW(hK:X.K=K:=by rfl):S7 X (.builtin "isinstance") (λxs H Q=>∃x c d t b p,xs=[x,.ref p]/\SqT K H p [.ty c,.ty d]/\TyOf K H x t/\kitAny K t [.type c,.type d]=some b/\Q (.bl b) H):=by subst hK;exact TC
theorem EJ{xs:List V}{us:List Value}(r:Vals xs us){j:Nat}(h1:j<us.toArray.size):∃x,xs[j]? =some x/\RelV x us.toArray[j]:=by
 have hj:j<xs.length:=by rw[r.length];simpa using h1
 obtain⟨u,hu,ru⟩:=r.get (i:=j) (x:=xs[j]) (by simp[hj]);have e1:us.toArray[j]=u:=by
  have:us[j]? =some us.toArray[j]:=by simp
  rw[hu]at this;exact(Option.some.inj this).symm
 exact⟨xs[j],by simp[hj],by rw[e1];exact ru⟩
end
end _L
namespace HT
open PySem PyProof.Rows
section
variable{prog:Program}{w:World}{A:Around}{E:Value->Shared->Prop}{s:Shared}
end
end HT
namespace _L
open PySem PySem.Spec PyProof.Rows
section
variable{X:Cx}{K:FZ}
end
end _L
namespace TM
open PySem PyProof.Rows
section
variable{prog:Program}{w:World}{A:Around}{E:Value->Shared->Prop}{s:Shared}
end
end TM
namespace _L
open PySem PySem.Spec PyProof.Rows
section
variable{X:Cx}{K:FZ}
end
end _L
namespace TM
open PySem PyProof.Rows PySem.SeqAt
end TM
namespace _L
open PySem PySem.Spec PyProof.Rows
section
variable{X:Cx}{K:FZ}
variable{e:Expr}{es tes:List Expr}{t tt:TA}{name:Str}{apos cpos tpos:Pos}{id:String}{r:V->List V->Hp->VK->Prop}
variable{c P:Addr}{params:Arguments}{body:Expr}{scope:Scope}{pos:Pos}{clos:List (Str×Addr)}
variable{k:Nat}{g:Addr}{fd:FuncData}{ps:List Str}{sp:Heap->Sp}{x:Str}{p:Pos}{qual:Str}{pm:Value}{fs:List Str}{js:List Nat}
end
section
variable{X:Cx}{P:Program}{w:World}{K:FZ}{mg:Str->Option Value}{base:Heap}{A:Around}{CX:CXT}{E:XK}{x:Str}{p pos:Pos}{e:Expr}{es:List Expr}{tf:TE}{t:TA}
end
section
variable{κ:Type}[DecidableEq κ]
noncomputable def R0(kvs:List (κ×V))(k:κ):Option V:=(kvs.find? λkv=>decide (kv.1=k)).map (·.2)
noncomputable def W9(kvs:List (κ×V))(k:κ)(v:V):List (κ×V):=
 if(kvs.any λkv=>decide (kv.1=k))=true then kvs.map (λkv=>if kv.1=k then(kv.1,v)else kv)else kvs++ [(k,v)]
theorem O3{p:κ×V}{r:List (κ×V)}{k:κ}(e:p.1=k):R0 (p::r) k=some p.2:=by simp[R0,find?_cons,e]
theorem O5{p:κ×V}{r:List (κ×V)}{k:κ}(e:¬p.1=k):R0 (p::r) k=R0 r k:=by simp[R0,find?_cons,e]
theorem EU(k:κ):∀kvs:List (κ×V),(kvs.any λkv=>decide (kv.1=k))=(R0 kvs k).isSome
 | []=>rfl
 |p::r=>by
  rw[any_cons];by_cases e:p.1=k
  ·simp only[O3 e,decide_eq_true e,Bool.true_or,Option.isSome_some]
  ·rw[O5 e,decide_eq_false e,Bool.false_or];exact EU k r
theorem MR(k j:κ)(y:V):∀kvs:List (κ×V),R0 (kvs.map λkv=>if kv.1=k then(kv.1,y)else kv) j=(R0 kvs j).map λx=>if j=k then y else x
 | []=>rfl
 |p::r=>by
  have ih:=MR k j y r;rw[map_cons];by_cases h:p.1=k
  ·rw[if_pos h];by_cases e:p.1=j
   ·rw[O3 (p:=(p.1,y)) e,O3 e,map_some,if_pos (e.symm.trans h)]
   ·rw[O5 (p:=(p.1,y)) e,O5 e,ih]
  ·rw[if_neg h];by_cases e:p.1=j
   ·rw[O3 (p:=p) e,O3 e,map_some,if_neg (λz=>h (e.trans z))]
   ·rw[O5 (p:=p) e,O5 e,ih]
theorem KH(k j:κ)(y:V):∀kvs:List (κ×V),R0 kvs k=none->R0 (kvs++ [(k,y)]) j=if j=k then some y else R0 kvs j
 | [],_=>by
  by_cases e:k=j
  ·rw[if_pos e.symm];exact O3 (p:=(k,y)) e
  ·rw[if_neg (λz=>e z.symm)];exact O5 (p:=(k,y)) e
 |p::r,hn=>by
  rw[List.cons_append];have hk:¬p.1=k:=λz=>by rw[O3 z]at hn;cases hn
  rw[O5 hk]at hn;have ih:=KH k j y r hn;by_cases e:p.1=j
  ·rw[O3 e,O3 e,if_neg (λz=>hk (e.trans z))]
  ·rw[O5 e,O5 e,ih]
theorem MQ(kvs:List (κ×V))(k j:κ)(y:V):R0 (W9 kvs k y) j=if j=k then some y else R0 kvs j:=by
 unfold W9;by_cases a:(kvs.any λkv=>decide (kv.1=k))=true
 ·rw[if_pos a,MR];rw[EU]at a;by_cases e:j=k
  ·obtain⟨x,hx⟩:=Option.isSome_iff_exists.mp a;rw[if_pos e,e,hx,map_some,if_pos rfl]
  ·rw[if_neg e];cases R0 kvs j with
   |none=>rfl
   |some x=>rw[map_some,if_neg e]
 ·rw[if_neg a];refine KH k j y kvs ?_;rw[EU]at a;cases q:R0 kvs k with
  |none=>rfl
  |some x=>rw[q]at a;exact(a rfl).elim
theorem CH(kvs:List (κ×V))(k:κ)(v:V):(W9 kvs k v).length<=kvs.length+1:=by
 unfold W9;split
 ·rw[length_map];omega
 ·rw[length_append,length_cons,length_nil];omega
theorem RelO.isSome_eq{o:Option V}{u:Option Value}(r:RelO o u):o.isSome=u.isSome:=by
 cases o with
 |none=>cases u with
  |none=>rfl
  |some _=>exact(show False from r).elim
 |some _=>cases u with
  |none=>exact(show False from r).elim
  |some _=>rfl
theorem RelO.getD{o:Option V}{u:Option Value}{d:V}{d':Value}(r:RelO o u)(rd:RelV d d'):RelV (o.getD d) (u.getD d'):=by
 cases o with
 |none=>cases u with
  |none=>exact rd
  |some _=>exact(show False from r).elim
 |some _=>cases u with
  |none=>exact(show False from r).elim
  |some _=>exact r
theorem KV.val{kvs:List (κ×V)}{vs:List (κ×Value)}(r:KV kvs vs)(k:κ):RelO (R0 kvs k) (valueAt vs k):=by
 unfold KV at r;induction r with
 |nil=>exact True.intro
 | @cons p q ps qs h t ih=>
  obtain⟨h1,h2⟩:=h;by_cases e:p.1=k
  ·have e':q.1=k:=h1.symm.trans e;have b:valueAt (q::qs) k=some q.2:=by simp[valueAt,find?_cons,e']
   rw[O3 e,b];exact h2
  ·have e':¬q.1=k:=λz=>e (h1.trans z);have b:valueAt (q::qs) k=valueAt qs k:=by simp[valueAt,find?_cons,e']
   rw[O5 e,b];exact ih
theorem KV.any{kvs:List (κ×V)}{vs:List (κ×Value)}(r:KV kvs vs)(k:κ):(kvs.any λkv=>decide (kv.1=k))=vs.any λkv=>decide (kv.1=k):=by
 unfold KV at r;induction r with
 |nil=>rfl
 |cons h t ih=>rw[any_cons,any_cons,ih,h.1]
theorem KV.repl{kvs:List (κ×V)}{vs:List (κ×Value)}(r:KV kvs vs)(k:κ){y:V}{u:Value}(ry:RelV y u):
  KV (kvs.map λkv=>if kv.1=k then(kv.1,y)else kv) (vs.map λkv=>if kv.1=k then(kv.1,u)else kv):=by
 unfold KV at r⊢;induction r with
 |nil=>exact .nil
 | @cons p q ps qs h t ih=>
  rw[map_cons,map_cons];refine .cons ?_ ih;obtain⟨h1,h2⟩:=h;by_cases e:p.1=k
  ·rw[if_pos e,if_pos (h1.symm.trans e)];exact⟨h1,ry⟩
  ·rw[if_neg e,if_neg (λz=>e (h1.trans z))];exact⟨h1,h2⟩
theorem KV.put{kvs:List (κ×V)}{vs:List (κ×Value)}(r:KV kvs vs)(k:κ){y:V}{u:Value}(ry:RelV y u):KV (W9 kvs k y) (stored vs k u):=by
 unfold W9 stored;rw[r.any k];by_cases e:(vs.any λkv=>decide (kv.1=k))=true
 ·rw[if_pos e,if_pos e];exact r.repl k ry
 ·rw[if_neg e,if_neg e];exact Paired.snoc r ⟨rfl,ry⟩
theorem KV.keys{kvs:List (κ×V)}{vs:List (κ×Value)}(r:KV kvs vs):kvs.map (·.1)=vs.map (·.1):=by
 unfold KV at r;induction r with
 |nil=>rfl
 |cons h t ih=>rw[map_cons,map_cons,ih,h.1]
theorem KV.length{kvs:List (κ×V)}{vs:List (κ×Value)}(r:KV kvs vs):kvs.length=vs.length:=Paired.length r
end
theorem IR{P:Program}{w:World}{k:Key}{u:Value}(r:RelV (kV k) u):(J8 P w).is k u=true:=by
 cases k with
 |inl i=>obtain⟨t,e⟩:=(show∃t,u=Value.int i t from r);subst e;exact NB P w i t
 |inr x=>obtain⟨t,e⟩:=(show∃t,u=Value.str x t from r);subst e;exact NT P w x t
theorem KD{P:Program}{w:World}:∀ {ks:List Key} {us:List Value},Vals (ks.map kV) us->ItemsAre (J8 P w) ks us
 | [],_,r=>by rw[List.map_nil]at r;cases r;exact .nil
 |k::ks,_,r=>by
  rw[map_cons]at r;cases r with
  |cons h t=>exact .cons (IR h) (KD t)
noncomputable abbrev KT(H:Hp):List (List Key×V)->List (List Key×Addr×Value)->Prop:=Paired λp q=>p.1=q.1/\H q.2.1=some (.tup (p.1.map kV))/\RelV p.2 q.2.2
theorem KT.val{H:Hp}{kvs:List (List Key×V)}{xs:List (List Key×Addr×Value)}(r:KT H kvs xs)(k:List Key):RelO (R0 kvs k) ((atKey xs k).map (·.2)):=by
 induction r with
 |nil=>exact True.intro
 | @cons p q ps qs h t ih=>
  obtain⟨h1,_,h2⟩:=h;by_cases e:p.1=k
  ·have e':q.1=k:=h1.symm.trans e;have b:atKey (q::qs) k=some q.2:=by simp[atKey,find?_cons,e']
   rw[O3 e,b];exact h2
  ·have e':¬q.1=k:=λz=>e (h1.trans z);have b:atKey (q::qs) k=atKey qs k:=by simp[atKey,find?_cons,e']
   rw[O5 e,b];exact ih
theorem KT.repl{H:Hp}{kvs:List (List Key×V)}{xs:List (List Key×Addr×Value)}(r:KT H kvs xs)(k:List Key){y:V}{u:Value}(ry:RelV y u):
  KT H (kvs.map λkv=>if kv.1=k then(kv.1,y)else kv) (xs.map (putAt k u)):=by
 induction r with
 |nil=>exact .nil
 | @cons p q ps qs h t ih=>
  rw[map_cons,map_cons];refine .cons ?_ ih;obtain⟨h1,h2,h3⟩:=h;unfold putAt;by_cases e:p.1=k
  ·rw[if_pos e,if_pos (h1.symm.trans e)];exact⟨h1,h2,ry⟩
  ·rw[if_neg e,if_neg (λz=>e (h1.trans z))];exact⟨h1,h2,h3⟩
theorem KT.put{H:Hp}{kvs:List (List Key×V)}{xs:List (List Key×Addr×Value)}(r:KT H kvs xs)(k:List Key){b:Addr}{y:V}{u:Value}(hb:H b=some (.tup (k.map kV)))(ry:RelV y u):
  KT H (W9 kvs k y) (storedH xs k b u):=by
 have e:(kvs.any λkv=>decide (kv.1=k))=(atKey xs k).isSome:=by
  rw[EU,(r.val k).isSome_eq,Option.isSome_map]
 unfold W9 storedH;rw[e];by_cases q:(atKey xs k).isSome=true
 ·rw[if_pos q,if_pos q];exact r.repl k ry
 ·rw[if_neg q,if_neg q];exact Paired.snoc r ⟨rfl,hb,ry⟩
theorem KT.keeps{H H':Hp}{kvs:List (List Key×V)}{xs:List (List Key×Addr×Value)}(r:KT H kvs xs)(ht:∀b ys,H b=some (.tup ys)->H' b=some (.tup ys)):KT H' kvs xs:=
 Paired.mapP r λ_ _ z=>⟨z.1,ht _ _ z.2.1,z.2.2⟩
section
variable{P:Program}{w:World}{H:Hp}{h:Heap}{a:Addr}
theorem aDZ{u:HO}(ok:HOk P w H h)(e:Rd H a u):ObjOk P w H h a u:=e.ok ok
theorem IK{kvs:List (Key×V)}(ok:HOk P w H h)(e:Rd H a (.dK kvs)):kvs.length<=sizeLine/\(a==sysModules)=false/\∃vs,KV kvs vs/\h.DictOf (J8 P w) a vs:=
 show ObjOk P w H h a (.dK kvs)from aDZ ok e
theorem UZ{kvs:List (Key×V)}(ok:HOk P w H h)(e:H a=some (.dK kvs)):kvs.length<=sizeLine/\(a==sysModules)=false/\∃vs,KV kvs vs/\h.DictOf (J8 P w) a vs:=IK ok (.inl e)
theorem IP{ks:List Key}(ok:HOk P w H h)(e:H a=some (.tup (ks.map kV))):(tupleKind (J8 P w)).is h ks a:=by
 obtain⟨_,its,r,o,h1,h2,n,h3⟩:=(show ObjOk P w H h a (.tup (ks.map kV))from ok a _ e);exact⟨o,its.toArray,n,h1,h2,h3,by simpa using KD r⟩
theorem JN{kvs:List (List Key×V)}(ok:HOk P w H h)(e:Rd H a (.dT kvs)):kvs.length<=sizeLine/\(a==sysModules)=false/\
  ∃xs,KT H kvs xs/\h.DictOfH (tupleKind (J8 P w)) a xs:=by
 obtain⟨z,y,xs,r,o,es,ep,h1,h2,h3,h4,h5⟩:=(show ObjOk P w H h a (.dT kvs)from aDZ ok e);refine⟨z,y,xs,r,o,es,ep,h1,h2,h3,h4,λx hx=> ?_,h5⟩;have all:∀ {l:List (List Key×V)} {m:List (List Key×Addr×Value)},KT H l m->∀x∈m,(tupleKind (J8 P w)).is h x.1 x.2.1:=by
  intro l m q;induction q with
  |nil=>intro x hx;exact nomatch hx
  | @cons p q ps qs hq t ih=>
   intro x hx;rcases cZ hx with e|hx
   ·subst e;exact IP ok (by rw[<-hq.1];exact hq.2.1)
   ·exact ih x hx
 exact all r x hx
theorem cOZ{kvs:List (List Key×V)}(ok:HOk P w H h)(e:H a=some (.dT kvs)):kvs.length<=sizeLine/\(a==sysModules)=false/\
  ∃xs,KT H kvs xs/\h.DictOfH (tupleKind (J8 P w)) a xs:=JN ok (.inl e)
end
noncomputable def DGet(H:Hp)(a:Addr)(y:V)(r:Option V):Prop:=
 (∃kvs k,Rd H a (.dK kvs)/\y=kV k/\r=R0 kvs k)\/∃kvs k b,Rd H a (.dT kvs)/\y=.ref b/\H b=some (.tup (k.map kV))/\r=R0 kvs k
noncomputable def DPut(H:Hp)(a:Addr)(y v:V)(H':Hp):Prop:=
 (∃kvs k,H a=some (.dK kvs)/\y=kV k/\kvs.length<sizeLine/\H'=upd H a (.dK (W9 kvs k v)))\/
 ∃kvs k b,H a=some (.dT kvs)/\y=.ref b/\H b=some (.tup (k.map kV))/\kvs.length<sizeLine/\H'=upd H a (.dT (W9 kvs k v))
theorem DGet.k{H:Hp}{a:Addr}{kvs:List (Key×V)}{k:Key}(e:H a=some (.dK kvs)):DGet H a (kV k) (R0 kvs k):=.inl ⟨kvs,k,.inl e,rfl,rfl⟩
theorem DPut.k{H:Hp}{a:Addr}{kvs:List (Key×V)}{k:Key}{v:V}(e:H a=some (.dK kvs))(hl:kvs.length<sizeLine):DPut H a (kV k) v (upd H a (.dK (W9 kvs k v))):=.inl ⟨kvs,k,e,rfl,hl,rfl⟩
section
variable{X:Cx}{pins:List (Addr×Obj)}{σ:St}{H:Hp}{s:Shared}{a:Addr}{y v:V}{u r:Value}{o:Option V}{A:Around}{E:Value->Shared->Prop}
theorem Inv.big(I:Inv X pins σ H s):sysModules<s.heap.objs.size:=by
 have h:mainGlobals<s.heap.objs.size:=(I.mod.glob.keeps I.bk).lt;exact Nat.lt_trans (by decide) h
theorem SQ{Q:Value->Shared->Prop}(hu:A.units+1<cLine)(I:Inv X pins σ H s)(g:DGet H a y (some v))(ry:RelV y u)(h:∀w' s',Inv X pins σ H s'->RelV v w'->Q w' s'):
  wpAny (model X.prog X.w) A (getItem (.ref a) u) Q E s:=by
 rcases g with⟨kvs,k,e,ey,l⟩|⟨kvs,k,b,e,ey,eb,l⟩
 ·subst ey;obtain⟨z,hd,vs,rel,dd⟩:=IK I.hok e;obtain⟨w',hw,rw'⟩:=RelO.some_of (v:=v) (o:=valueAt vs k) (by rw[l];exact rel.val k);exact wpAny_getItem_of (IR ry) dd.mapOf hw (h w' _ (I.tok _) rw')
 ·subst ey;cases(show u=Value.ref b from ry);obtain⟨z,hd,xs,rel,dd⟩:=JN I.hok e;obtain⟨w',hw,rw'⟩:=RelO.some_of (v:=v) (o:=(atKey xs k).map (·.2)) (by rw[l];exact rel.val k);obtain⟨p,hp,hp2⟩:=map_eq_some_iff.mp hw;refine wpAny_getItem_heap (tupleKind_room_in1 hu) (IP I.hok eb) dd hp ?_;rw[hp2];exact h w' _ (I.tok _) rw'
theorem MB{h':Heap}{t':Nat}{ob:HO}(I:Inv X pins σ H s)(mu:Mut (H a))(hs:Heap.SameBut a s.heap h')(he:∃q,h'.get? a=some q)(new:ObjOk X.prog X.w (upd H a ob) h' a ob):
  Inv X pins σ (upd H a ob) {s with heap:=h',toks:=t'}:=
 I.write (x:=a) (e:=a) mu (.inl rfl) (λb q hb z=>(hs.2 b hb).trans z) he new
theorem LG{P:Program}{w:World}{H':Hp}{h':Heap}{kvs:List (Key×V)}{vs:List (Key×Value)}(z:kvs.length<=sizeLine)(hd:(a==sysModules)=false)(rel:KV kvs vs)(dd:h'.DictOf (J8 P w) a vs):
  ObjOk P w H' h' a (.dK kvs):=⟨z,hd,vs,rel,dd⟩
theorem TH{H':Hp}{Q:Unit->Shared->Prop}(hu:A.units+1<cLine)(I:Inv X pins σ H s)(g:DPut H a y v H')(ry:RelV y u)(rv:RelV v r)(h:∀s',Inv X pins σ H' s'->Q () s'):
  wpAny (model X.prog X.w) A (setItem (.ref a) u r) Q E s:=by
 rcases g with⟨kvs,k,e,ey,l,eH⟩|⟨kvs,k,b,e,ey,eb,l,eH⟩
 ·subst ey eH;obtain⟨z,hd,vs,rel,dd⟩:=UZ I.hok e;have hz:vs.length<=sizeLine:=by rw[<-rel.length];exact z
  have hl:(W9 kvs k v).length<=sizeLine:=by have:=CH kvs k v;omega
  refine wpAny_setItem_pairs (hsz:=hz) (IR ry) dd λh' dd' hs=>h _ ?_;have he:∃q,h'.get? a=some q:=let⟨q,_,_,hq,_⟩:=dd';⟨q,hq⟩;exact MB I (by rw[e];exact True.intro) hs he (LG hl hd (rel.put k rv) dd')
 ·subst ey eH;cases(show u=Value.ref b from ry);obtain⟨z,hd,xs,rel,dd⟩:=cOZ I.hok e;have hz:xs.length<=sizeLine:=by rw[<-Paired.length rel];exact z
  have hl:(W9 kvs k v).length<=sizeLine:=by have:=CH kvs k v;omega
  refine wpAny_setItem_heap (hsz:=hz) (tupleKind_room_in1 hu) (IP I.hok eb) dd λh' dd' hs=>h _ ?_;obtain⟨q,es,ep,hq,h2,h3,h4,_,h5⟩:=dd';refine MB I (by rw[e];exact True.intro) hs ⟨q,hq⟩ ⟨hl,hd,_,(rel.put k eb rv).keeps λc ys ec=> ?_,q,es,ep,hq,h2,h3,h4,h5⟩;rw[B9 (BL ec e (λz=>nomatch z))];exact ec
variable{kvs:List (Key×V)}{k:Key}
end
noncomputable def cWZ(i:Expr):Prop:=∀ov iv,subscripted i false ov iv=operate [ov,iv] (getItem ov iv)
theorem alZ{prog:Program}{w:World}{A:Around}{E:Value->Shared->Prop}{s:Shared}{env:Env}{value slice:Expr}{pos:Pos}{T id:String}{Q:Value->Shared->Prop}
  (hl:typeLookup (.type T) "__getitem__"=pure (some (.builtin id)))(hs:cWZ slice)
  (h:wpAny (model prog w) A (eval value env) (λo s₁=>wpAny (model prog w) A (eval slice env) (λi s₂=>s₂.TypeIs o T/\wpAny (model prog w) A (getItem o i) Q E s₂) E s₁) E s):
  wpAny (model prog w) A (eval (.Subscript value slice pos) env) Q E s:=by
 refine Subscript_ (wpAny_mono h (λo s₁ h₁=>wpAny_mono h₁ (λi s₂ h₂=> ?_) λ_ _ x=>x) λ_ _ x=>x);obtain⟨hT,h₂⟩:=h₂;unfold subscriptTail;refine bZ ?_;rw[getitemInPython_of_ne hT.not_modules];refine bZ (wpAny_specialOf hT hl ?_);have fin:wpAny (model prog w) A (subscripted slice false o i) (λr s₃=>wpAny (model prog w) A (letTemporaryGo value o r>>=λ_=>pure r) Q E s₃) E s₂:=by
  rw[hs o i];exact wpAny_operating (wpAny_mono h₂ (λr s₃ h₃=>bZ (wpAny_letTemporaryGo (pZ h₃))) λ_ _ x=>x)
 first
  |exact pZ (bZ fin)
  |exact bZ (pZ (bZ fin))
  |exact bZ fin
theorem MH{X:Cx}{pins:List (Addr×Obj)}{σ:St}{H:Hp}{s:Shared}{a:Addr}{y:V}{o:Option V}(I:Inv X pins σ H s)(g:DGet H a y o):s.TypeIs (.ref a) "dict":=by
 rcases g with⟨kvs,k,e,_,_⟩|⟨kvs,k,b,e,_,_,_⟩
 ·obtain⟨_,_,vs,_,dd⟩:=IK I.hok e;exact dd.typeIs
 ·obtain⟨_,_,xs,_,dd⟩:=JN I.hok e;exact dd.typeIs
inductive tDGetW (Q:VK) (x y:V) (H2:Hp):Prop
 |mk:∀a v,(x=.ref a)->(DGet H2 a y (some v))->(Q v H2)->tDGetW Q x y H2
noncomputable def aKZ(td ty:TE):TE:=fun σ H Q=>td σ H λx H1=>ty σ H1 λy H2=>tDGetW Q x y H2
section
variable{X:Cx}{o i e value:Expr}{pos pos' tpos:Pos}{td ty tv:TE}
theorem LL(hu:X.A.units+1<cLine)(ho:PE X o td)(hi:PE X i ty)(hs:cWZ i):PE X (.Subscript o i pos) (aKZ td ty):=by
 intro pins s σ H Q I h;refine alZ PySem.F.slot_dict_getitem.lookup hs (thn (ho pins s σ H _ I h) λu s1 ⟨x,H1,I1,rx,q1⟩=>thn (hi pins s1 σ H1 _ I1 q1) λiv s2 ⟨y,H2,I2,ry,a,v,ex,g,q2⟩=> ?_);subst ex;obtain rfl:u=Value.ref a:=rx;exact⟨MH I2 g,SQ hu I2 g ry λw' s3 I3 rw'=>⟨v,H2,I3,rw',q2⟩⟩
end
theorem WN{P:Program}{w:World}{H:Hp}(h:Heap)(hb:sysModules<h.objs.size):ObjOk P w H (h.push {cls:=.type "dict",data:=.dict #[]}) h.objs.size (.dK []):=
 ⟨zero_le _,beq_eq_false_iff_ne.mpr (Ne.symm (ne_of_lt hb)),[],.nil,Heap.DictOf.new h⟩
section
variable{X:Cx}{pos:Pos}
end
noncomputable def OZ:List (TE×TE)->St->Hp->(List (V×V)->Hp->Prop)->Prop
 | [],_,H,Q=>Q [] H
 |(tk,tv)::r,σ,H,Q=>tk σ H λx H1=>tv σ H1 λy H2=>OZ r σ H2 λps H3=>Q ((x,y)::ps) H3
noncomputable abbrev VV:List (V×V)->List (Value×Value)->Prop:=Paired λp q=>RelV p.1 q.1/\RelV p.2 q.2
noncomputable def PPs(X:Cx)(pos:Pos)(keys:List (Option Expr))(values:List Expr)(trs:List (TE×TE)):Prop:=
 ∀(pins:List (Addr×Obj)) (s:Shared) (σ:St) (H:Hp) (Q:List (V×V)->Hp->Prop),Inv X pins σ H s->OZ trs σ H Q->
  wpAny (model X.prog X.w) X.A (evalPairs (pairTrees keys values X.env pos)) (λvs s'=>∃ps H',Inv X pins σ H' s'/\VV ps vs/\Q ps H') X.xe s
theorem RO{X:Cx}{pos:Pos}:PPs X pos [] [] []:=λpins s σ H Q I h=>pairTrees_nil_walk ⟨[],H,I,.nil,h⟩
theorem AE{X:Cx}{pos:Pos}{k v:Expr}{ks:List (Option Expr)}{vs:List Expr}{tk tv:TE}{trs:List (TE×TE)}(hk:PE X k tk)(hv:PE X v tv)(hr:PPs X pos ks vs trs):
  PPs X pos (some k::ks) (v::vs) ((tk,tv)::trs):=λpins s σ H Q I h=>
 pairTrees_cons_walk (thn (hk pins s σ H _ I h) λu s1 ⟨x,H1,I1,rx,q1⟩=>thn (hv pins s1 σ H1 _ I1 q1) λw2 s2 ⟨y,H2,I2,ry,q2⟩=>
  thn (hr pins s2 σ H2 _ I2 q2) λws s3 ⟨ps,H3,I3,rel,q3⟩=>⟨(x,y)::ps,H3,I3,.cons ⟨rx,ry⟩ rel,q3⟩)
noncomputable def L8(kvs more:List (Key×V)):List (Key×V):=more.foldl (λacc kv=>W9 acc kv.1 kv.2) kvs
theorem KV.merge:∀ {more:List (Key×V)} {rs:List (Key×Value)} {kvs:List (Key×V)} {vs:List (Key×Value)},KV more rs->KV kvs vs->KV (L8 kvs more) (merged vs rs):=by
 intro more rs kvs vs r;unfold KV at r;induction r generalizing kvs vs with
 |nil=>intro q;exact q
 | @cons p q ps qs h t ih=>
  intro r0;have e:KV (W9 kvs p.1 p.2) (stored vs q.1 q.2):=by
   have:=r0.put p.1 h.2;rw[<-h.1];exact this
  exact ih e
theorem Z5:∀(more kvs:List (Key×V)),(L8 kvs more).length<=kvs.length+more.length
 | [],kvs=>by show kvs.length<=kvs.length+0;omega
 |p::r,kvs=>by
  have h1:=Z5 r (W9 kvs p.1 p.2);have h2:=CH kvs p.1 p.2;show(L8 (W9 kvs p.1 p.2) r).length<=_;rw[length_cons];omega
theorem IH{P:Program}{w:World}:∀ {kvs:List (Key×V)} {ws:List (Value×Value)},VV (kvs.map λkv=>(kV kv.1,kv.2)) ws->∃rs,Carries (J8 P w) ws rs/\KV kvs rs
 | [],_,r=>by rw[List.map_nil]at r;cases r;exact⟨[],True.intro,.nil⟩
 |p::kvs,_,r=>by
  rw[map_cons]at r;cases r with
  | @cons a b as bs h t=>
   obtain⟨rs,c,q⟩:=IH (P:=P) (w:=w) t;obtain⟨b1,b2⟩:=b;exact⟨(p.1,b2)::rs,⟨IR h.1,rfl,c⟩,.cons ⟨rfl,h.2⟩ q⟩
noncomputable def cUZ(trs:List (TE×TE)):TE:=fun σ H Q=>∀p,H p=none->OZ trs σ (upd H p (.dK [])) λps H2=>H2 p=some (.dK [])/\∃kvs:List (Key×V),ps=kvs.map (λkv=>(kV kv.1,kv.2))/\kvs.length<=15/\Q (.ref p) (upd H2 p (.dK (L8 [] kvs)))
theorem QX{X:Cx}{pos:Pos}{keys:List (Option Expr)}{values:List Expr}{trs:List (TE×TE)}(h:PPs X pos keys values trs)(hall:keys.all (·.isSome)=true)(hl:keys.length=values.length)(h0:keys≠ [])
  (h15:keys.length<=15):PE X (.Dict keys values pos) (cUZ trs):=by
 intro pins s σ H Q I q;have hn:=I.hok.fresh (Nat.le_refl s.heap.objs.size);have I1:=I.laid (a:=s.heap.objs.size) (o:=.dK []) (h':=s.heap.push {cls:=.type "dict",data:=.dict #[]}) (t':=s.toks) (λ_ _ q=>gZ _ q) (Nat.le_refl _) (WN s.heap I.big);refine wpAny_Dict_walk (knd:=J8 X.prog X.w) hall hl h0 h15 (thn (h pins _ σ _ _ I1 (q _ hn)) λws s2 ⟨ps,H2,I2,rel,e,kvs,ep,lk,q2⟩=> ?_);subst ep;obtain⟨rs,c,rk⟩:=IH (P:=X.prog) (w:=X.w) rel;obtain⟨z,hd,vs0,r0,dd⟩:=UZ I2.hok e;cases r0;refine⟨rs,c,dd,λh' dd' hs=>⟨.ref s.heap.objs.size,_, ?_,rfl,q2⟩⟩;have hz:(L8 [] kvs).length<=sizeLine:=by
  have h1:=Z5 kvs [];rw[length_nil]at h1;rw[sizeLine_eq];omega
 have he:∃q,h'.get? s.heap.objs.size=some q:=let⟨q,_,_,hq,_⟩:=dd';⟨q,hq⟩;exact MB I2 (by rw[e];exact True.intro) hs he (LG hz hd (rk.merge .nil) dd')
structure M1 (X:Cx) (o:Expr) (m:Str) (apos:Pos) (e:Expr) (cpos:Pos):Prop where
 base:attributeBase o m X.env (eval o X.env)=eval o X.env
 few:((backTo cpos (starEach [e] X.env)).all (λx=> !x.1)&&(backToKw cpos (keywordEach [] X.env)).all (λx=>x.1.isSome)
  &&decide (([e]:List Expr).length+([]:List Keyword).length+(if([]:List Keyword).isEmpty then 0 else 1)<30))=true
 line:(apos.endLine==cpos.line)=true
 trees:backTo cpos (starEach [e] X.env)=[(false,eval e X.env)]
structure M2 (X:Cx) (o:Expr) (m:Str) (apos:Pos) (e f:Expr) (cpos:Pos):Prop where
 base:attributeBase o m X.env (eval o X.env)=eval o X.env
 few:((backTo cpos (starEach [e,f] X.env)).all (λx=> !x.1)&&(backToKw cpos (keywordEach [] X.env)).all (λx=>x.1.isSome)
  &&decide (([e,f]:List Expr).length+([]:List Keyword).length+(if([]:List Keyword).isEmpty then 0 else 1)<30))=true
 line:(apos.endLine==cpos.line)=true
 trees:backTo cpos (starEach [e,f] X.env)=[(false,eval e X.env),(false,eval f X.env)]
noncomputable def IsD(H:Hp)(a:Addr):Prop:=(∃kvs,Rd H a (.dK kvs))\/∃kvs,Rd H a (.dT kvs)
theorem XX{X:Cx}{pins:List (Addr×Obj)}{σ:St}{H:Hp}{s:Shared}{a:Addr}(I:Inv X pins σ H s)(d:IsD H a):
  s.TypeIs (.ref a) "dict"/\(∀b,Value.ref a=.ref b->∃ob,s.heap.get? b=some ob/\ob.dict=none)/\(a==sysModules)=false:=by
 rcases d with⟨kvs,e⟩|⟨kvs,e⟩
 ·obtain⟨_,hd,vs,_,dd⟩:=IK I.hok e;refine⟨dd.typeIs,λb q=> ?_,hd⟩;cases q;obtain⟨ob,_,_,h1,h2,_⟩:=dd;exact⟨ob,h1,h2.2.1⟩
 ·obtain⟨_,hd,xs,_,dd⟩:=JN I.hok e;refine⟨dd.typeIs,λb q=> ?_,hd⟩;cases q;obtain⟨ob,_,_,h1,h2,_⟩:=dd;exact⟨ob,h1,h2.2.1⟩
section
variable{X:Cx}{pins:List (Addr×Obj)}{σ:St}{H:Hp}{s:Shared}{a:Addr}{y d:V}{u r:Value}{o:Option V}{A:Around}{E:Value->Shared->Prop}
theorem bAZ{Q:Value->Shared->Prop}(hu:A.units+1<cLine)(I:Inv X pins σ H s)(g:DGet H a y o)(ry:RelV y u)(h:∀w' s',Inv X pins σ H s'->RelV (o.getD .non) w'->Q w' s'):
  wpAny (model X.prog X.w) A (call (.builtin "dict.get") [.ref a,u]) Q E s:=by
 rcases g with⟨kvs,k,e,ey,l⟩|⟨kvs,k,b,e,ey,eb,l⟩
 ·subst ey;obtain⟨z,hd,vs,rel,dd⟩:=IK I.hok e;refine call_meetsIn PySem.F.slot_dict_get dd.typeIs PySem.F.entry_dict_get (PySem.F.args_dict_get_2 _ _) (meets_dict_get (J8 X.prog X.w) a (IR ry) hd) ⟨_,dd.mapOf,h _ _ (I.tok _) ?_⟩;rw[l];exact(rel.val k).getD rfl
 ·subst ey;cases(show u=Value.ref b from ry);obtain⟨z,hd,xs,rel,dd⟩:=JN I.hok e;refine call_meetsIn PySem.F.slot_dict_get dd.typeIs PySem.F.entry_dict_get (PySem.F.args_dict_get_2 _ _) (meetsH_dict_get (tupleKind (J8 X.prog X.w)) a b hd) ⟨tupleKind_room_in1 hu,k,xs,IP I.hok eb,dd,h _ _ (I.tok _) ?_⟩;rw[l];exact(rel.val k).getD rfl
theorem bwZ{Q:Value->Shared->Prop}(hu:A.units+1<cLine)(I:Inv X pins σ H s)(g:DGet H a y o)(ry:RelV y u)(rd:RelV d r)(h:∀w' s',Inv X pins σ H s'->RelV (o.getD d) w'->Q w' s'):
  wpAny (model X.prog X.w) A (call (.builtin "dict.get") [.ref a,u,r]) Q E s:=by
 rcases g with⟨kvs,k,e,ey,l⟩|⟨kvs,k,b,e,ey,eb,l⟩
 ·subst ey;obtain⟨z,hd,vs,rel,dd⟩:=IK I.hok e;refine call_meetsIn PySem.F.slot_dict_get dd.typeIs PySem.F.entry_dict_get (PySem.F.args_dict_get_3 _ _ _) (meets_dict_get_default (J8 X.prog X.w) a (IR ry) hd r) ⟨_,dd.mapOf,h _ _ (I.tok _) ?_⟩;rw[l];exact(rel.val k).getD rd
 ·subst ey;cases(show u=Value.ref b from ry);obtain⟨z,hd,xs,rel,dd⟩:=JN I.hok e;refine call_meetsIn PySem.F.slot_dict_get dd.typeIs PySem.F.entry_dict_get (PySem.F.args_dict_get_3 _ _ _) (meetsH_dict_get_default (tupleKind (J8 X.prog X.w)) a b hd r) ⟨tupleKind_room_in1 hu,k,xs,IP I.hok eb,dd,h _ _ (I.tok _) ?_⟩;rw[l];exact(rel.val k).getD rd
end
noncomputable def brZ(td ty:TE):TE:=fun σ H Q=>td σ H λx H1=>∃a,x=.ref a/\IsD H1 a/\ty σ H1 λy H2=>∃o,DGet H2 a y o/\Q (o.getD .non) H2
noncomputable def bJZ(td ty tx:TE):TE:=fun σ H Q=>td σ H λx H1=>∃a,x=.ref a/\IsD H1 a/\ty σ H1 λy H2=>tx σ H2 λz H3=>∃o,DGet H3 a y o/\Q (o.getD z) H3
section
variable{X:Cx}{o e f:Expr}{apos cpos:Pos}{td ty tx:TE}
theorem VE(hu:X.A.units+1<cLine)(ho:PE X o td)(he:PE X e ty)(m:M1 X o "get" apos e cpos):PE X (.Call (.Attribute o "get" apos) [e] [] cpos) (brZ td ty):=by
 intro pins s σ H Q I h;refine wpAny_Call_method m.base m.few m.line PySem.F.plainAttrs_dict PySem.F.slot_dict_get PySem.F.type_dict_get (thn (ho pins s σ H _ I h) λu s1 ⟨x,H1,I1,rx,a,ex,d,q1⟩=> ?_);subst ex;obtain rfl:u=Value.ref a:=rx;obtain⟨t1,t2,_⟩:=XX I1 d;refine⟨t1,t2, ?_⟩;rw[m.trees];refine Calls.callWith_builtin rfl (Calls.evalArgs_plain (Calls.spliced_cons (thn (he pins s1 σ H1 _ I1 q1) λiv s2 ⟨y,H2,I2,ry,ov,g,q2⟩=>Calls.spliced_nil ?_)));exact bAZ hu I2 g ry λw' s3 I3 rw'=>⟨_,H2,I3,rw',q2⟩
theorem VJ(hu:X.A.units+1<cLine)(ho:PE X o td)(he:PE X e ty)(hf:PE X f tx)(m:M2 X o "get" apos e f cpos):PE X (.Call (.Attribute o "get" apos) [e,f] [] cpos) (bJZ td ty tx):=by
 intro pins s σ H Q I h;refine wpAny_Call_method m.base m.few m.line PySem.F.plainAttrs_dict PySem.F.slot_dict_get PySem.F.type_dict_get (thn (ho pins s σ H _ I h) λu s1 ⟨x,H1,I1,rx,a,ex,d,q1⟩=> ?_);subst ex;obtain rfl:u=Value.ref a:=rx;obtain⟨t1,t2,_⟩:=XX I1 d;refine⟨t1,t2, ?_⟩;rw[m.trees];refine Calls.callWith_builtin rfl (Calls.evalArgs_plain (Calls.spliced_cons (thn (he pins s1 σ H1 _ I1 q1) λiv s2 ⟨y,H2,I2,ry,q2⟩=>
  Calls.spliced_cons (thn (hf pins s2 σ H2 _ I2 q2) λfv s3 ⟨z,H3,I3,rz,ov,g,q3⟩=>Calls.spliced_nil ?_))))
 exact bwZ hu I3 g ry rz λw' s4 I4 rw'=>⟨_,H3,I4,rw',q3⟩
variable{pins:List (Addr×Obj)}{σ:St}{H:Hp}{s:Shared}{a:Addr}{kvs:List (Key×V)}{A:Around}{E:Value->Shared->Prop}
theorem XU{Q:Value->Shared->Prop}(I:Inv X pins σ H s)(e:Rd H a (.dK kvs))(h:∀p s',H p=none->Inv X pins σ (upd H p (.dK kvs)) s'->Q (.ref p) s'):wpAny (model X.prog X.w) A (call (.type "dict") [.ref a]) Q E s:=by
 obtain⟨z,hd,vs,rel,dd⟩:=IK I.hok e;refine kt_call_dict hd dd (by rw[<-rel.length];exact z) λh' dd' hs=> ?_;refine h _ _ (I.hok.fresh (Nat.le_refl _)) (I.laid (a:=s.heap.objs.size) (o:=.dK kvs) (t':=s.toks) (λb q hq=> ?_) (Nat.le_refl _) (LG z (beq_eq_false_iff_ne.mpr (Ne.symm (ne_of_lt I.big))) rel dd'));exact(hs.2 b (ne_of_lt (lt_size hq))).trans (gZ _ hq)
variable{y:V}{u:Value}
noncomputable def cMZ:V->V->V->Hp->(Hp->Prop)->Prop:=λo i v H Q=>∃a H',o=.ref a/\DPut H a i v H'/\Q H'
theorem XE(hu:X.A.units+64<cLine):baZ X cMZ:=by
 intro pins s σ H o i v ov iv u Q I ro ri rv h;obtain⟨a,H',rfl,g,q⟩:=h;cases ro;exact TH (by omega) I g ri rv λs' I'=>⟨H',I',q⟩
end
end _L
namespace PySem
namespace ZT
section
variable{prog:Program}{w:World}{A:Around}{E:Value->Shared->Prop}{s:Shared}
end
end ZT
end PySem
namespace _L
open PySem PySem.Spec PyProof.Rows
noncomputable def SqX(t:Bool)(K:FZ)(H:Hp)(a:Addr)(xs:List V):Prop:=if t then SqT K H a xs else SqL K H a xs
section
variable{X:Cx}{pins:List (Addr×Obj)}{σ:St}{H:Hp}{s:Shared}{a:Addr}{xs ys:List V}{t:Bool}
theorem Inv.sqx(I:Inv X pins σ H s)(h:SqX t X.K H a xs):∃its:List Value,Vals xs its/\ZT.IsSq t s.heap a its.toArray/\xs.length<=sizeLine:=by
 cases t
 ·obtain⟨its,rv,p,hz⟩:=I.list h;exact⟨its,rv,p.isList,hz⟩
 ·obtain⟨its,rv,p,hz⟩:=I.tuple h;exact⟨its,rv,p,hz⟩
theorem Inv.sqx_inj(I:Inv X pins σ H s)(h:SqX t X.K H a xs)(h':SqX t X.K H a ys):xs=ys:=by
 cases t
 ·exact I.list_inj h h'
 ·exact I.tuple_inj h h'
end
theorem MV{t:Bool}{h:Heap}{c l:Addr}{i:Nat}(x:ZT.IsIt t h c l i):∃o,h.get? c=some o/\∀v,o.data≠ .cell v:=by
 cases t
 ·obtain⟨o,e,c,d⟩:=(show h.IsListIter c l i from x);exact⟨o,e,λv q=>by rw[d]at q;cases q⟩
 ·obtain⟨o,e,c,d⟩:=(show h.IsTupleIter c l i from x);exact⟨o,e,λv q=>by rw[d]at q;cases q⟩
section
variable{X:Cx}{K:FZ}{elts:List Expr}{kt:Nat}{pt:Pos}
variable{tg:Expr}
end
end _L
namespace PySem
open PyProof.Rows _L
namespace F
end F
section
variable{prog:Program}{w:World}{A:Around}{E:Value->Shared->Prop}{s:Shared}
end
end PySem
namespace _L
open PySem PySem.Spec PyProof.Rows
section
variable{X:Cx}{tg:Expr}
end
end _L
namespace PySem
open PyProof.Rows
namespace F
theorem sub_attrErr:isSubtype (.type "AttributeError") (.type "AttributeError")=pure true:=by rw[isSubtype_type];kernel_rfl
end F
section
variable{prog:Program}{w:World}{A:Around}{E:Value->Shared->Prop}{s:Shared}
theorem PN{p:Addr}{key v:Value}{Q:List Value->Shared->Prop}(hp:s.heap.IsTuple p #[key,v])
  (q:Q [key,v] s):wpAny (model prog w) A (Builtin.Dict.pairItems (.ref p)) Q E s:=by
 obtain⟨o,ho,hc,n,hd⟩:=id hp;have ty:s.TypeIs (.ref p) "tuple":=⟨_,ho,hc⟩;unfold Builtin.Dict.pairItems;refine bZ (wpAny_typeOf ty ?_);rw[if_pos (by decide)];refine bZ (wpAny_seqItems ho hd (pZ q))
end
end PySem
namespace PySem
open PyProof.Rows
namespace F
theorem entry_dict_update_loop:entryFor table "dict.update.loop"=some Builtin.«dict.update.loop»:=by kernel_rfl
theorem plain_dict_update_loop:plainId "dict.update.loop"=true:=by decide +kernel
end F
section
variable{prog:Program}{w:World}{A:Around}{E:Value->Shared->Prop}{s:Shared}
end
end PySem
namespace PySem
section
variable{prog:Program}{w:World}{A:Around}{E:Value->Shared->Prop}{s:Shared}
end
end PySem
namespace _L
open PySem PySem.Spec PyProof.Rows
section
variable{X:Cx}{K:FZ}{pins:List (Addr×Obj)}{σ:St}{H:Hp}{s:Shared}
end
end _L
namespace PySem
open PyProof.Rows
section
variable{prog:Program}{w:World}{A:Around}{E:Value->Shared->Prop}{s:Shared}
theorem GU{h:Heap}{a b:Addr}{o:Obj}{vs:List Value}{out:Array Value}(e:h.get? b=some o)(n:b≠a):(sortedHeap h a vs out).get? b=some o:=by
 unfold sortedHeap;have h1:(h.update a (Obj.mapSeq λ_=> #[])).get? b=some o:=(get?_update_other _ _ (Ne.symm n)).trans e;exact(get?_update_other _ _ (Ne.symm n)).trans (gZ _ (gZ _ h1))
theorem GX{h:Heap}{a:Addr}{vs:List Value}{out:Array Value}{n:Nat}(e:h.get? a=some {cls:=.type "list",data:=.seq vs.toArray n}):∃n',(sortedHeap h a vs out).get? a=some {cls:=.type "list",data:=.seq out n'}:=by
 unfold sortedHeap;have h1:=get?_update_self (Obj.mapSeq (λ_=>(#[]:Array Value))) e rfl;have h2:=gZ (seqObj "list" #[] 0) (gZ (seqObj "tuple" vs.toArray 0) h1);exact⟨_,get?_update_self (Obj.mapSeq (λ_=>out)) h2 rfl⟩
end
end PySem
namespace _L
open PySem PySem.Spec PyProof.Rows
section
variable{X:Cx}
end
end _L
namespace PySem
open AutoSeq1(wpAny_loadPart')
end PySem
namespace _L
open PySem PySem.Spec PyProof.Rows
section
variable{X:Cx}{K:FZ}{tg:Expr}
variable{pins:List (Addr×Obj)}{σ:St}{H:Hp}{s:Shared}
end
end _L
namespace PySem
open PyProof.Rows
section
variable{prog:Program}{w:World}
noncomputable def dd{K:Type}[DecidableEq K](D:List K)(x:K):List K:=if x∈D then D else D++ [x]
theorem bBZ{K:Type}[DecidableEq K](D:List K)(x k:K):k∈dd D x↔k∈D\/k=x:=by
 unfold dd;by_cases h:x∈D
 ·rw[if_pos h];exact⟨.inl,λz=>z.elim id λe=>e▸h⟩
 ·rw[if_neg h,mem_append,List.mem_singleton]
theorem WZ{K:Type}[DecidableEq K](D:List K)(x:K):(dd D x).length=if x∈D then D.length else D.length+1:=by
 unfold dd;by_cases h:x∈D
 ·rw[if_pos h,if_pos h]
 ·rw[if_neg h,if_neg h,length_append];rfl
theorem XG{K:Type}[DecidableEq K]{knd:KeyKind prog w K}{A:Around}{R:Result->Shared->Prop}{I:Addr}{fp wr:List Addr}{G:Array GenState->Array GenState->Prop}{n:Nat}{P:Nat->Value->Prop}{St:Nat->Shared->Prop}
  (W:WalksS prog w A.in1 I fp wr G n P St)(S:Addr)(hS:S∉fp)(vals:List K)(hP:∀i v,P i v->∃k,vals[i]? =some k/\knd.is k v=true/\v.scannable=true)(hl:vals.length=n)(hn:n+1<scanBound):
  ∀(m i:Nat) (s:Shared) (D:List K),n - i=m->i<=n->St i s->D.length<=i->Heap.SetOf knd s.heap S (λk=>decide (k∈D)) D.length->
   (∀s',Moved (S::wr) G s s'->Heap.SetOf knd s'.heap S (λk=>decide (k∈(vals.drop i).foldl dd D)) ((vals.drop i).foldl dd D).length->R (.ok (.ret .none)) s')->
   codeAny (model prog w) A (.builtin "set.update.loop" ⟨[.ref S,.ref I],[]⟩) R s:=by
 intro m;induction m with
 |zero=>
  intro i s D hm hi hSt hD hSet hR;have e:i=n:=by omega
  subst e;refine codeAny_builtin F.entry_set_update_loop ?_;rw[Around.under_plainId F.plain_set_update_loop];refine bZ (m:=pyNext (.ref I)) (W.done s _ _ hSt λs' hM=>pZ ?_);refine hR s' (hM.mono λb hb=>mem_cons_of_mem _ hb) ?_;rw[<-hl,List.drop_length];obtain⟨o,es,ep,t,h1,h2⟩:=hSet;exact⟨o,es,ep,t,hM.heap _ _ (λz=>hS (W.sub _ z)) h1,h2⟩
 |succ m ih=>
  intro i s D hm hi hSt hD hSet hR;refine codeAny_builtin F.entry_set_update_loop ?_;rw[Around.under_plainId F.plain_set_update_loop];refine bZ (m:=pyNext (.ref I)) (W.item i s _ _ (by omega) hSt λv s' hPv hSt' hM=> ?_);obtain⟨k,hk,his,hsc⟩:=hP i v hPv;have hSet':Heap.SetOf knd s'.heap S (λk=>decide (k∈D)) D.length:=by
   obtain⟨o,es,ep,t,h1,h2⟩:=hSet;exact⟨o,es,ep,t,hM.heap _ _ (λz=>hS (W.sub _ z)) h1,h2⟩
  refine bZ (m:=holding [v] (setAdd S v)) (wpAny_holding ?_);unfold setAdd;refine wpAny_holding (bZ (knd.pyHash his ?_));refine wpAny_setAddHashed_of (knd:=knd) (k:=k) his hsc hSet' (by omega) λh' sb hs'=> ?_;refine pZ ⟨plainId_quiet F.plain_set_update_loop _, ?_⟩;have hD':Heap.SetOf knd h' S (λk'=>decide (k'∈dd D k)) (dd D k).length:=by
   refine SetOf_congr hs' (λk'=> ?_) ?_
   ·rw[Bool.eq_iff_iff,Bool.or_eq_true,decide_eq_true_iff,decide_eq_true_iff,decide_eq_true_iff,bBZ]
   ·rw[WZ];by_cases c:k∈D
    ·rw[if_pos c,if_pos (decide_eq_true c)]
    ·rw[if_neg c,if_neg (by rw[decide_eq_false c];exact nZ)]
  have hM2:Moved (S::wr) G s {s' with heap:=h',toks:=s'.toks+1}:=(hM.mono λb hb=>mem_cons_of_mem _ hb).then_heap (le_succ _) λb o hb e=>(sb.2 b (λz=>hb (by rw[z];exact mem_cons_self ..))).trans e;refine ih (i+1) _ (dd D k) (by omega) (by omega) (W.frame (i+1) s' h' (s'.toks+1) hSt' (le_succ _) λb hb o e=>(sb.2 b (λz=>hS (z▸hb))).trans e) (by rw[WZ];split<;>omega) hD' λs3 hM3 h3=>hR s3 (Moved.trans W.gtrans hM2 hM3) ?_;have e:vals.drop i=k::vals.drop (i+1):=by
   obtain⟨hlt,e1⟩:=List.getElem?_eq_some_iff.mp hk;rw[List.drop_eq_getElem_cons hlt,e1]
  rw[e];exact h3
variable{A:Around}{E:Value->Shared->Prop}{s:Shared}
theorem NN{T newId initId:String}{args:List Value}{Q Q₁:Value->Shared->Prop}(tc:TypeCalled T newId initId)(hc:checkTypeCall T ⟨args,[]⟩=pure ())
  (hnew:codeAny (model prog w) A.in1 (.call (.builtin newId) ⟨.type T::args,[]⟩) (wants Q₁ E) s)
  (hinit:∀obj s₁,Q₁ obj s₁->s₁.TypeIs obj T/\codeAny (model prog w) A.in1 (.call (.builtin initId) ⟨obj::args,[]⟩) (wants (λr s₂=>r=.none/\Q obj s₂) E) s₁):
  wpAny (model prog w) A (call (.type T) args) Q E s:=by
 obtain⟨c0,tl,hmro⟩:=tc.mro;refine wpAny_call (codeAny_of_tree (pZ ⟨Code.quiet_builtin _ (by decide +kernel),codeAny_builtin F.entry_type_call ?_⟩));rw[show(A.under (Code.builtin "type.__call__" ⟨.type T::(⟨args,[]⟩:Args).pos,[]⟩))=A.in1 from Around.under_plain (weight_type_call_type _ _ _) (units_type_call_type _ _ _)];unfold Builtin.«type.__call__»;simp only[tc.notType,tc.canCreate];rw[if_neg nZ,if_neg nZ];refine bZ (wpAny_of_eq hc (bZ (wpAny_of_eq hmro ?_)));rw[if_neg (show¬(c0::tl).isEmpty=true from nZ)];refine bZ (wpAny_of_eq tc.made (bZ (pZ (bZ (wpAny_holding (wpAny_call (codeAny_mono hnew λr s1 hr=> ?_)))))))
 match r,hr with
 | .error e,hr=>exact hr
 | .ok (.ret obj),hr=>
  obtain⟨ty,hi⟩:=hinit obj s1 hr;refine bZ (wpAny_isInstance ty tc.sub ?_);rw[if_neg (by decide)];refine bZ (wpAny_holding ?_);unfold callSpecial?;refine bZ (wpAny_specialOf ty tc.init.lookup (wpAny_holding (bZ (wpAny_of_eq (tc.init.bind _) (bZ (wpAny_call (codeAny_mono hi λr2 s2 hr2=> ?_)))))))
  match r2,hr2 with
  | .error e,hr2=>exact hr2
  | .ok (.ret v),hr2=>
   obtain⟨rfl,hq⟩:=hr2;refine pZ ?_;show wpAny _ _ (if(Value.none !=Value.none)=true then _ else _) _ _ _;rw[if_neg (by decide)];exact pZ hq
theorem IY{K:Type}[DecidableEq K]{knd:KeyKind prog w K}{Q:Value->Shared->Prop}(hh:A.handled=none){l:Addr}{its:Array Value}{n:Nat}{sl:Array (Option Value)}{vals:List K}
  (hl:s.heap.get? l=some {cls:=.type "list",data:=.seq its n,slots:=sl})(hv:∀(i:Nat) v,its[i]? =some v->∃k,vals[i]? =some k/\knd.is k v=true/\v.scannable=true)(hlen:vals.length=its.size)(hn:its.size+1<scanBound)
  (hQ:∀h' tk,Heap.SetOf knd h' s.heap.objs.size (λk=>decide (k∈vals.foldl dd [])) (vals.foldl dd []).length->(∀b o,s.heap.get? b=some o->h'.get? b=some o)->Q (.ref s.heap.objs.size) {s with heap:=h',toks:=tk}):
  wpAny (model prog w) A (call (.type "set") [.ref l]) Q E s:=by
 have ltl:l<s.heap.objs.size:=lt_size hl;refine NN (Q₁:=λobj s₁=>obj=.ref s.heap.objs.size/\∃led,s₁={s with heap:=s.heap.push {cls:=.type "set",data:=.set #[] 0 (SetTable.fresh 0 0 led)}}) F.called_set (F.typeCall_set_1 _)
  (code_set_new_1 _ λled=>⟨rfl,led,rfl⟩) λobj s₁ h₁=> ?_
 obtain⟨rfl,led,rfl⟩:=h₁;have hS:(s.heap.push {cls:=.type "set",data:=.set #[] 0 (SetTable.fresh 0 0 led)}).get? s.heap.objs.size=some {cls:=.type "set",data:=.set #[] 0 (SetTable.fresh 0 0 led)}:=get?_push_size _ rfl;have tyd:Shared.TypeIs {s with heap:=s.heap.push {cls:=.type "set",data:=.set #[] 0 (SetTable.fresh 0 0 led)}} (.ref s.heap.objs.size) "set":=⟨_,hS,rfl⟩;have hl1:(s.heap.push {cls:=.type "set",data:=.set #[] 0 (SetTable.fresh 0 0 led)}).get? l=some {cls:=.type "list",data:=.seq its n,slots:=sl}:=gZ _ hl;have tyl:Shared.TypeIs {s with heap:=s.heap.push {cls:=.type "set",data:=.set #[] 0 (SetTable.fresh 0 0 led)}} (.ref l) "list":=⟨_,hl1,rfl⟩;refine⟨tyd,codeAny_call_builtin F.called_set.init.plain F.entry_set_init (check_set_init_1 tyd ?_)⟩;unfold Builtin.«set.__init__»;refine bZ (wpAny_of_eq (show noKeywords "set" {pos:=[Value.ref s.heap.objs.size,Value.ref l]}=pure () by kernel_rfl) ?_);show wpAny _ _ (typeNameOfCut 200 (.ref s.heap.objs.size)>>=_) _ _ _;unfold typeNameOfCut shownTypeOf;refine bZ (bZ (bZ (wpAny_typeOf tyd ?_)));rw[if_neg (by decide)];refine pZ (wpAny_of_eq (show typeNameCut 200 (Value.type "set")=pure "set" by kernel_rfl) ?_);refine bZ (wpAny_of_eq (show checkCount "set" 0 1 [Value.ref l].length=pure () by kernel_rfl) ?_);refine bZ (pZ ?_);unfold setUsed;refine bZ (bZ (wpAny_setState_of hS rfl rfl (pZ ?_)));rw[if_neg (by cases led<;>decide)];show wpAny _ _ (Builtin.Frozenset.updateFrom "set.__init__" s.heap.objs.size (.ref l)>>=λ_=>ret .none) _ _ _;refine bZ ?_;unfold Builtin.Frozenset.updateFrom Builtin.Frozenset.isAnySet;refine bZ (bZ (wpAny_isInstance tyl F.sub_list_set ?_));refine wpAny_isInstance tyl F.sub_list_frozenset ?_;rw[if_neg nZ];refine bZ (wpAny_typeOf tyl ?_);rw[if_neg (by decide)];have hL1:(s.heap.push {cls:=.type "set",data:=.set #[] 0 (SetTable.fresh 0 0 led)}).IsList l its:=⟨_,hl1,rfl,n,rfl⟩;refine bZ (wpAny_pyIter_list hL1 ?_);have kp:∀b o,(s.heap.push {cls:=.type "set",data:=.set #[] 0 (SetTable.fresh 0 0 led)}).get? b=some o->((s.heap.push {cls:=.type "set",data:=.set #[] 0 (SetTable.fresh 0 0 led)}).push {cls:=.type "list_iterator",data:=.fields #[.ref l,.int 0 0]}).get? b=some o:=λb o e=>gZ _ e;have hsz:(s.heap.push {cls:=.type "set",data:=.set #[] 0 (SetTable.fresh 0 0 led)}).objs.size=s.heap.objs.size+1:=Heap.size_push _ _;refine bZ (wpAny_runValue ?_);have nl:l≠(s.heap.push {cls:=.type "set",data:=.set #[] 0 (SetTable.fresh 0 0 led)}).objs.size:=by rw[hsz];exact ne_of_lt (lt_succ_of_lt ltl)
 refine XG (knd:=knd) (W:=(Walks.list (prog:=prog) (w:=w) (A:=A.in1.in1.in1) hh (s.heap.push {cls:=.type "set",data:=.set #[] 0 (SetTable.fresh 0 0 led)}).objs.size l nl its).toS) s.heap.objs.size ?_ vals hv hlen hn its.size 0 _ [] rfl (zero_le _) ⟨⟨_,get?_push_size _ rfl,rfl,rfl⟩,hL1.at λo e=>kp _ _ e⟩ (Nat.le_refl _) ?_ λs3 hM hset=> ?_
 ·rw[hsz];intro z;rcases cZ z with e|z
  ·exact ne_of_lt (Nat.lt_succ_self _) e
  ·exact Nat.ne_of_gt ltl (sZ z)
 ·refine SetOf_congr (Obj.SetObjOf.setOf (setObjOf_fresh led) (kp _ _ hS) (by decide)) (λk=> ?_) rfl;simp
 ·refine pZ (pZ ⟨rfl, ?_⟩);obtain⟨h3,g3,d3,t3,o3⟩:=s3;have e1:g3=s.gens:=hM.gens;have e2:d3=s.drawn:=hM.drawn;have e3:o3=s.os:=hM.os;subst e1 e2 e3;refine hQ h3 t3 hset λb o e=>hM.heap b o (λz=> ?_) (kp _ _ (gZ _ e));have ltb:=lt_size e;rcases cZ z with e|z
  ·exact ne_of_lt ltb e
  ·have e4:=sZ z;rw[hsz]at e4;exact ne_of_lt (lt_succ_of_lt ltb) e4
end
end PySem
namespace _L
open PySem PySem.Spec PyProof.Rows
theorem blZ:bootBuiltins "set"=some (.type "set"):=by decide +kernel
theorem VM{ss:List Str}{us:List Value}(r:Vals (ss.map V.str) us)(prog:Program)(w:World)(i:Nat)(v:Value)(h:us.toArray[i]? =some v):∃k,ss[i]? =some k/\(PySem.strKind prog w).is k v=true/\v.scannable=true:=by
 have h':us[i]? =some v:=by simpa using h
 have hi:i<us.length:=(List.getElem?_eq_some_iff.mp h').1;have hl:=r.length;rw[length_map]at hl;have hi2:i<ss.length:=by omega
 obtain⟨u,hu,ru⟩:=r.get (i:=i) (x:=.str ss[i]) (by rw[getElem?_map,List.getElem?_eq_getElem hi2];rfl);rw[h']at hu;cases hu;obtain⟨t,rfl⟩:=ru;refine⟨ss[i],List.getElem?_eq_getElem hi2, ?_,rfl⟩;show Value.isStrOf ss[i] (.str ss[i] t)=true;unfold Value.isStrOf;simp
section
variable{X:Cx}{K:FZ}
noncomputable def ahZ(K:FZ)(ta:TA):TE:=fun σ H Q=>ta σ H λvs H1=>∃(p:Addr) (ss:List Str),vs=[.ref p]/\H1 p=some (.lst (ss.map V.str))/\ss.length<=1000/\Q (.int ((ss.foldl dd []).length:Nat)) H1
theorem TJ{a:Expr}{ta:TA}{p p' pos pos':Pos}(hg:Gl X "set")(hm:X.mg "set"=none)(hg':Gl X "len")(hm':X.mg "len"=none)(hc:X.calm=true)(ha:PA X [a] ta)(hK:X.K=K:=by rfl)(hs:starEach [a] X.env=[(false,eval a X.env)]:=by rfl)
  (hs':starEach [.Call (.Name "set" p) [a] [] pos] X.env=[(false,eval (.Call (.Name "set" p) [a] [] pos) X.env)]:=by rfl):
  PE X (.Call (.Name "len" p') [.Call (.Name "set" p) [a] [] pos] [] pos') (ahZ K ta):=by
 subst hK;intro pins s σ H Q I h;refine wpAny_Call_Name_kw (Q0 I hg' hm' YV ?_);refine PyProof.Rows.callWith_builtin1 ?_ hs' rfl;rw[hs'];refine Calls.spliced_cons (Call_ (Q0 I hg hm blZ (callWith_type1 (thn (ha pos pins s σ H _ I h) λus s1 ⟨vs,H1,I1,r1,q1⟩=> ?_) hs rfl)));obtain⟨l,ss,e,hp,hn,q⟩:=q1;subst e;obtain⟨u,rfl,ru⟩:=BD r1;cases ru;obtain⟨its,n,rv,hget,hz⟩:=I1.lst hp;have hl:=rv.length;rw[length_map]at hl;have hb:(1002:Nat)<scanBound:=by decide
 refine IY (knd:=PySem.strKind X.prog X.w) (vals:=ss) (I1.ok.hd hc) hget (λi v h=>VM rv X.prog X.w i v h) (by rw[size_toArray];exact hl) (by rw[size_toArray];omega) λh' tk hset hk=> ?_;refine Calls.spliced_nil ?_;obtain⟨o,es,ep,t,h1,h2,h3,h4,h5,h6,h7,h8⟩:=hset;have I2:Inv X pins σ H1 {s1 with heap:=h',toks:=tk}:=I1.kept (t':=tk) hk;have hbig:(ss.foldl dd []).length<2^63:=by rw[<-h8];exact Nat.lt_trans h6 (by decide)
 refine call_len_set (s:={s1 with heap:=h',toks:=tk}) h1 h2 h3 h7 (by rw[h8];omega) ?_;rw[h8];exact⟨.int ((ss.foldl dd []).length:Nat),H1,I2.kept (t':=tk+1+1) λb o e=>e,⟨_,rfl⟩,q⟩
end
end _L
namespace PySem
open PyProof.Rows
section
variable{prog:Program}{w:World}{K:Type}[DecidableEq K]{knd:KeyKind prog w K}{A:Around}{E:Value->Shared->Prop}{s:Shared}
end
section
variable{prog:Program}{w:World}{A:Around}{E:Value->Shared->Prop}{s:Shared}
end
end PySem
namespace _L
open PySem PySem.Spec PyProof.Rows
theorem EN:∀ {us:List Value} {ss:List Str},StrsAre us ss->Vals (ss.map V.str) us
 |_,_,.nil=> .nil
 |_,_,.cons n t h=> .cons ⟨t,rfl⟩ (EN h)
section
variable{X:Cx}{K:FZ}
end
theorem OK{K:FZ}{a:Addr}{xs:List V}{caps:List Nat}{tt:TT}{te:TE}{σ:_L.St}{H:Hp}{R:List V->Hp->Prop}(Pv:Nat->List V->Hp->Prop)(h0:Pv 0 [] H)(hl:∀i ys H,i<=xs.length->Pv i ys H->SqL K H a xs/\ys.length<=sizeLine)
  (hs:∀i x ys H,xs[i]? =some x->Pv i ys H->∃p v1 v2,x=.ref p/\SqT K H p [v1,v2]/\tt (capσ2 caps σ (some v1) (some v2)) H λb H2=>if b=true then te (capσ2 caps σ (some v1) (some v2)) H2 λy H3=>Pv (i+1) (ys++ [y]) H3 else Pv (i+1) ys H2)(hd:∀ys H,Pv xs.length ys H->R ys H):
  ∃W:Nat->Nat->List V->Hp->Prop,(∃m,W 0 m [] H)/\∀i m ys H,W i m ys H->ys.length<=sizeLine/\(((Itl K a).stop i H/\R ys H)\/((Itl K a).go i H/\∃N:List V->Hp->Prop,(∀ys' H',N ys' H'->∃m',m'<m/\W (i+1) m' ys' H')/\∀v H',(Itl K a).yld i H v H'->
   ∃a v1 v2,v=.ref a/\SqT K H' a [v1,v2]/\tt (capσ2 caps σ (some v1) (some v2)) H' λb H2=>if b=true then te (capσ2 caps σ (some v1) (some v2)) H2 λy H3=>N (ys++ [y]) H3 else N ys H2)):=by
 refine⟨λi m ys H=>m=xs.length - i/\i<=xs.length/\Pv i ys H,⟨xs.length,by simp,zero_le _,h0⟩, ?_⟩;rintro i m ys H ⟨rfl,hi,p⟩;obtain⟨hS,hz⟩:=hl i ys H hi p;refine⟨hz, ?_⟩;by_cases hlt:i<xs.length
 ·refine .inr ⟨⟨xs,xs[i],hS,by simp[hlt]⟩,Pv (i+1),λys' H' p'=>⟨xs.length - (i+1),by omega,rfl,hlt,p'⟩,λx H' y=> ?_⟩;obtain⟨e,y1⟩:=y;subst e;exact hs i x ys _ (y1 xs hS) p
 ·have e:i=xs.length:=by omega
  subst e;exact .inl ⟨⟨xs,hS,Nat.le_refl _⟩,hd ys H p⟩
end _L
namespace PySem
open PyProof.Rows
section
variable{prog:Program}{w:World}{A:Around}{E:Value->Shared->Prop}{s:Shared}
end
end PySem
namespace _L
open PySem PySem.Spec PyProof.Rows
section
variable{X:Cx}{K:FZ}
end
end _L
namespace PySem
open Sem(wp)
open PyProof.Rows
namespace ZT
section
variable{prog:Program}{w:World}{A:Around}{E:Value->Shared->Prop}{s:Shared}
theorem NC{t1 t2:Bool}{z TI TO i1 i2 l1 l2:Addr}{k1 k2:Nat}{xs ys:Array Value}{x y a b:Value}{Q:Value->Shared->Prop}(D:ZipApart z TI TO i1 i2 l1 l2)
  (hz:IsZ s.heap z TI TO .none (.bool false))(hTI:IsPair s.heap TI (.ref i1) (.ref i2))(hTO:IsPair s.heap TO a b)
  (h1:IsIt t1 s.heap i1 l1 k1)(h2:IsIt t2 s.heap i2 l2 k2)(hl1:IsSq t1 s.heap l1 xs)(hl2:IsSq t2 s.heap l2 ys)(hx:xs[k1]? =some x)(hy:ys[k2]? =some y)
  (hQ:∀h',IsZ h' z TI TO (rawInt s.heap.objs.size) (.bool false)->IsIt t1 h' i1 l1 (k1+1)->IsIt t2 h' i2 l2 (k2+1)->IsPair h' s.heap.objs.size x y->h'.objs.size=s.heap.objs.size+1->
   (∀c o,c≠z->c≠TO->c≠i1->c≠i2->s.heap.get? c=some o->h'.get? c=some o)->IsPair h' TO x y->Q (.ref s.heap.objs.size) {s with heap:=h'}):
  wpAny (model prog w) A (Builtin.«zip.__next__» ⟨[.ref z],[]⟩) (λfin s'=>∃v,fin=.done (.ret v)/\Q v s') E s:=by
 show wpAny _ _ (field (.ref z) 2>>=_) _ _ _;refine bZ (wpAny_field hz rfl (x:=.bool false) rfl ?_);show wpAny _ _ (field (.ref z) 3>>=_) _ _ _;refine bZ (wpAny_field hz rfl (x:=.ref TI) rfl ?_);refine bZ (wpAny_seqItems hTI rfl ?_);show wpAny _ _ (Builtin.SmallTypes.ownedTupleIsFree (.ref z)>>=_) _ _ _;refine bZ ?_;unfold Builtin.SmallTypes.ownedTupleIsFree;refine bZ (wpAny_field hz rfl (x:=.none) rfl (pZ ?_));simp only[if_true];refine bZ (wpAny_rule ?_);refine bZ (wpAny_field hz rfl (x:=.ref TO) rfl ?_);refine bZ (wpAny_setField_rec hz (by simp) λg₁ z₁ q₁=> ?_);replace z₁:IsZ g₁ z TI TO .ellipsis (.bool false):=z₁;have p₁:IsPair g₁ TO a b:=q₁.extBut _ _ D.TOz hTO;refine bZ ?_;simp only[List.zipIdx_cons,List.zipIdx_nil,forIn_cons,forIn_nil];refine bZ (bZ (wpAny_onRaise ?_));show wpAny _ _ (Builtin.SmallTypes.nextOf (.ref i1)>>=_) _ _ _;refine bZ (R8 (h1.extBut q₁.extBut D.i1z) (hl1.extBut q₁.extBut D.l1z) hx λg₂ it₂ q₂=>pZ ?_);have p₂:IsPair g₂ TO a b:=q₂.extBut _ _ D.TOi1 p₁;refine bZ (wpAny_seqItems p₂ rfl (bZ (wpAny_updateSeq_pair p₂ λg₃ p₃ q₃=>bZ (wpAny_letGo (pZ ?_)))));replace p₃:IsPair g₃ TO x b:=p₃;have k₃:∀ {c o},c≠z->c≠i1->c≠TO->s.heap.get? c=some o->g₃.get? c=some o:=λc1 c2 c3 e=>q₃.extBut _ _ c3 (q₂.extBut _ _ c2 (q₁.extBut _ _ c1 e));refine bZ (bZ (wpAny_onRaise ?_));show wpAny _ _ (Builtin.SmallTypes.nextOf (.ref i2)>>=_) _ _ _;refine bZ (R8 (h2.at λo e=>k₃ D.i2z D.i12.symm D.TOi2.symm e) (hl2.at λo e=>k₃ D.l2z D.l2i1 D.l2TO e) hy λg₄ it₄ q₄=>pZ ?_);have p₄:IsPair g₄ TO x b:=q₄.extBut _ _ D.TOi2 p₃;refine bZ (wpAny_seqItems p₄ rfl (bZ (wpAny_updateSeq_pair p₄ λg₅ p₅ q₅=>bZ (wpAny_letGo (pZ (pZ ?_))))));replace p₅:IsPair g₅ TO x y:=p₅;refine bZ (wpAny_seqItems p₅ rfl (bZ (wpAny_newTuple ?_)));have sz:g₅.objs.size=s.heap.objs.size:=by rw[q₅.1,q₄.1,q₃.1,q₂.1,q₁.1]
 have z₅:IsZ g₅ z TI TO .ellipsis (.bool false):=q₅.extBut _ _ D.TOz.symm (q₄.extBut _ _ D.i2z.symm (q₃.extBut _ _ D.TOz.symm (q₂.extBut _ _ D.i1z.symm z₁)));have k₅:∀c o,c≠z->c≠TO->c≠i1->c≠i2->s.heap.get? c=some o->g₅.get? c=some o:=λc o c1 c2 c3 c4 e=>q₅.extBut _ _ c2 (q₄.extBut _ _ c4 (k₃ c1 c3 c2 e));have it1:IsIt t1 g₅ i1 l1 (k1+1):=it₂.at λo e=>q₅.extBut _ _ D.TOi1.symm (q₄.extBut _ _ D.i12 (q₃.extBut _ _ D.TOi1.symm e));have it2:IsIt t2 g₅ i2 l2 (k2+1):=it₄.at λo e=>q₅.extBut _ _ D.TOi2.symm e;have zlt:z<g₅.objs.size:=lt_size z₅;show wpAny _ _ (Builtin.SmallTypes.ownedTupleHandOut (.ref z) (.ref g₅.objs.size)>>=_) _ _ _;refine bZ ?_;unfold Builtin.SmallTypes.ownedTupleHandOut;refine bZ (wpAny_setField_rec (gZ _ z₅) (by simp) λg₇ z₇ q₇=> ?_);replace z₇:IsZ g₇ z TI TO (rawInt g₅.objs.size) (.bool false):=z₇;refine wpAny_setField_rec z₇ (by simp) λg₈ z₈ q₈=>pZ ⟨_,rfl, ?_⟩;replace z₈:IsZ g₈ z TI TO (rawInt g₅.objs.size) (.bool false):=z₈;have up:∀c o,c≠z->g₅.get? c=some o->g₈.get? c=some o:=λc o c1 e=>q₈.extBut _ _ c1 (q₇.extBut _ _ c1 (gZ _ e));have pT:IsPair g₈ g₅.objs.size x y:=q₈.extBut _ _ (Nat.ne_of_gt zlt) (q₇.extBut _ _ (Nat.ne_of_gt zlt) (get?_push_size _ rfl));have s8:g₈.objs.size=g₅.objs.size+1:=by rw[q₈.1,q₇.1,Heap.size_push]
 show Q (.ref g₅.objs.size) _;rw[sz]at z₈ pT s8⊢;exact hQ g₈ z₈ (it1.at λo e=>up _ o D.i1z e) (it2.at λo e=>up _ o D.i2z e) pT s8 (λc o c1 c2 c3 c4 e=>up c o c1 (k₅ c o c1 c2 c3 c4 e)) (up _ _ D.TOz p₅)
theorem SN{t1 t2:Bool}{z TI TO i1 i2 l1 l2:Addr}{k1 k2:Nat}{xs ys:Array Value}{a b:Value}{Q:Fin->Shared->Prop}(hh:A.handled=none)(D:ZipApart z TI TO i1 i2 l1 l2)
  (hz:IsZ s.heap z TI TO .none (.bool false))(hTI:IsPair s.heap TI (.ref i1) (.ref i2))(hTO:IsPair s.heap TO a b)
  (h1:IsIt t1 s.heap i1 l1 k1)(h2:IsIt t2 s.heap i2 l2 k2)(hl1:IsSq t1 s.heap l1 xs)(hl2:IsSq t2 s.heap l2 ys)(hend:xs[k1]? =none\/ys[k2]? =none)
  (hE:∀h' e,(∀c o,c≠z->c≠TO->c≠i1->c≠i2->s.heap.get? c=some o->h'.get? c=some o)->(∃o,h'.get? e=some o/\o.cls=.type "StopIteration")->E (.ref e) {s with heap:=h'}):
  wpAny (model prog w) A (Builtin.«zip.__next__» ⟨[.ref z],[]⟩) Q E s:=by
 show wpAny _ _ (field (.ref z) 2>>=_) _ _ _;refine bZ (wpAny_field hz rfl (x:=.bool false) rfl ?_);show wpAny _ _ (field (.ref z) 3>>=_) _ _ _;refine bZ (wpAny_field hz rfl (x:=.ref TI) rfl ?_);refine bZ (wpAny_seqItems hTI rfl ?_);show wpAny _ _ (Builtin.SmallTypes.ownedTupleIsFree (.ref z)>>=_) _ _ _;refine bZ ?_;unfold Builtin.SmallTypes.ownedTupleIsFree;refine bZ (wpAny_field hz rfl (x:=.none) rfl (pZ ?_));simp only[if_true];refine bZ (wpAny_rule ?_);refine bZ (wpAny_field hz rfl (x:=.ref TO) rfl ?_);refine bZ (wpAny_setField_rec hz (by simp) λg₁ z₁ q₁=> ?_);replace z₁:IsZ g₁ z TI TO .ellipsis (.bool false):=z₁;have p₁:IsPair g₁ TO a b:=q₁.extBut _ _ D.TOz hTO;refine bZ ?_;simp only[List.zipIdx_cons,List.zipIdx_nil,forIn_cons,forIn_nil];refine bZ (bZ (wpAny_onRaise ?_));show wpAny _ _ (Builtin.SmallTypes.nextOf (.ref i1)>>=_) _ _ _;cases hx:xs[k1]? with
 |none=>
  refine bZ (EO hh (h1.extBut q₁.extBut D.i1z) (hl1.extBut q₁.extBut D.l1z) hx λg₂ e q₂ he=> ?_);obtain⟨oe,hoe,hce⟩:=he;have z₂:IsZ g₂ z TI TO .ellipsis (.bool false):=q₂ _ _ D.i1z.symm z₁;have hez:e≠z:=λx=>by subst x;rw[z₂]at hoe;cases hoe;simp at hce
  exact wpAny_setField_rec z₂ (by simp) λg₃ _ q₃=>hE g₃ e (λc o c1 _ c3 _ x=>q₃.extBut _ _ c1 (q₂ _ _ c3 (q₁.extBut _ _ c1 x))) ⟨oe,q₃.extBut _ _ hez hoe,hce⟩
 |some x=>
  have hy:ys[k2]? =none:=by rcases hend with h|h;rw[hx]at h;cases h;exact h
  refine bZ (R8 (h1.extBut q₁.extBut D.i1z) (hl1.extBut q₁.extBut D.l1z) hx λg₂ it₂ q₂=>pZ ?_);have p₂:IsPair g₂ TO a b:=q₂.extBut _ _ D.TOi1 p₁;refine bZ (wpAny_seqItems p₂ rfl (bZ (wpAny_updateSeq_pair p₂ λg₃ p₃ q₃=>bZ (wpAny_letGo (pZ ?_)))));have k₃:∀ {c o},c≠z->c≠i1->c≠TO->s.heap.get? c=some o->g₃.get? c=some o:=λc1 c2 c3 e=>q₃.extBut _ _ c3 (q₂.extBut _ _ c2 (q₁.extBut _ _ c1 e));refine bZ (bZ (wpAny_onRaise ?_));show wpAny _ _ (Builtin.SmallTypes.nextOf (.ref i2)>>=_) _ _ _;refine bZ (EO hh (h2.at λo e=>k₃ D.i2z D.i12.symm D.TOi2.symm e) (hl2.at λo e=>k₃ D.l2z D.l2i1 D.l2TO e) hy λg₄ e q₄ he=> ?_);obtain⟨oe,hoe,hce⟩:=he;have z₄:IsZ g₄ z TI TO .ellipsis (.bool false):=q₄ _ _ D.i2z.symm (q₃.extBut _ _ D.TOz.symm (q₂.extBut _ _ D.i1z.symm z₁));have hez:e≠z:=λx=>by subst x;rw[z₄]at hoe;cases hoe;simp at hce
  exact wpAny_setField_rec z₄ (by simp) λg₅ _ q₅=>hE g₅ e (λc o c1 c2 c3 c4 x=>q₅.extBut _ _ c1 (q₄ _ _ c4 (k₃ c1 c3 c2 x))) ⟨oe,q₅.extBut _ _ hez hoe,hce⟩
theorem pyNext_fresh0{t1 t2:Bool}{z TI TO i1 i2 l1 l2:Addr}{k1 k2:Nat}{xs ys:Array Value}{x y a b:Value}{Q:Option Value->Shared->Prop}(D:ZipApart z TI TO i1 i2 l1 l2)
  (hz:IsZ s.heap z TI TO .none (.bool false))(hTI:IsPair s.heap TI (.ref i1) (.ref i2))(hTO:IsPair s.heap TO a b)
  (h1:IsIt t1 s.heap i1 l1 k1)(h2:IsIt t2 s.heap i2 l2 k2)(hl1:IsSq t1 s.heap l1 xs)(hl2:IsSq t2 s.heap l2 ys)(hx:xs[k1]? =some x)(hy:ys[k2]? =some y)
  (hQ:∀h',IsZ h' z TI TO (rawInt s.heap.objs.size) (.bool false)->IsIt t1 h' i1 l1 (k1+1)->IsIt t2 h' i2 l2 (k2+1)->IsPair h' s.heap.objs.size x y->h'.objs.size=s.heap.objs.size+1->
   (∀c o,c≠z->c≠TO->c≠i1->c≠i2->s.heap.get? c=some o->h'.get? c=some o)->IsPair h' TO x y->Q (some (.ref s.heap.objs.size)) {s with heap:=h'}):
  wpAny (model prog w) A (pyNext (.ref z)) Q E s:=by
 have ty:s.TypeIs (.ref z) "zip":=⟨_,hz,rfl⟩;unfold pyNext;exact bZ (wpAny_attempt (wpAny_callSpecial?_slot (name:=Str.ofString "__next__") ty F.slot_zip_next
  (wpAny_call_entry F.slot_zip_next ty F.entry_zip_next (NC D hz hTI hTO h1 h2 hl1 hl2 hx hy λh' a1 a2 a3 a4 a5 a6 a7=>pZ (hQ h' a1 a2 a3 a4 a5 a6 a7)) (F.args_zip_next_1 _))))
theorem pyNext_fend{t1 t2:Bool}{z TI TO i1 i2 l1 l2:Addr}{k1 k2:Nat}{xs ys:Array Value}{a b:Value}{Q:Option Value->Shared->Prop}(hh:A.handled=none)(D:ZipApart z TI TO i1 i2 l1 l2)
  (hz:IsZ s.heap z TI TO .none (.bool false))(hTI:IsPair s.heap TI (.ref i1) (.ref i2))(hTO:IsPair s.heap TO a b)
  (h1:IsIt t1 s.heap i1 l1 k1)(h2:IsIt t2 s.heap i2 l2 k2)(hl1:IsSq t1 s.heap l1 xs)(hl2:IsSq t2 s.heap l2 ys)(hend:xs[k1]? =none\/ys[k2]? =none)
  (hQ:∀h',(∀c o,c≠z->c≠TO->c≠i1->c≠i2->s.heap.get? c=some o->h'.get? c=some o)->Q none {s with heap:=h'}):
  wpAny (model prog w) A (pyNext (.ref z)) Q E s:=by
 have ty:s.TypeIs (.ref z) "zip":=⟨_,hz,rfl⟩;unfold pyNext;refine bZ (wpAny_attempt (wpAny_callSpecial?_slot (name:=Str.ofString "__next__") ty F.slot_zip_next
  (wpAny_call_entry F.slot_zip_next ty F.entry_zip_next (SN hh D hz hTI hTO h1 h2 hl1 hl2 hend λh' e hk he=> ?_) (F.args_zip_next_1 _))))
 obtain⟨o,ho,hc⟩:=he;exact bZ (wpAny_isInstance (T:="StopIteration") (b:=true) ⟨o,ho,hc⟩ isSubtype_stop (pZ (hQ _ hk)))
end
noncomputable abbrev xh1(t1:Bool)(h:Heap)(l1:Addr):Heap:=h.push (itO t1 l1)
noncomputable abbrev xh2(t1 t2:Bool)(h:Heap)(l1 l2:Addr):Heap:=(xh1 t1 h l1).push (itO t2 l2)
noncomputable abbrev xh3(t1 t2:Bool)(h:Heap)(l1 l2:Addr):Heap:=(xh2 t1 t2 h l1 l2).push {cls:=.type "tuple",data:=.seq #[.ref h.objs.size,.ref (xh1 t1 h l1).objs.size]}
noncomputable abbrev xh4(t1 t2:Bool)(h:Heap)(l1 l2:Addr):Heap:=(xh3 t1 t2 h l1 l2).push {cls:=.type "tuple",data:=.seq #[.none,.none]}
noncomputable abbrev xh5(t1 t2:Bool)(h:Heap)(l1 l2:Addr):Heap:=(xh4 t1 t2 h l1 l2).push {cls:=.type "zip",data:=.fields #[.none,.bool false,.bool false,.ref (xh2 t1 t2 h l1 l2).objs.size,.ref (xh3 t1 t2 h l1 l2).objs.size]}
set_option maxHeartbeats 4000000 in
theorem OX(t1 t2:Bool)(l1 l2:Addr)(xs ys:Array Value):
  Meets (Builtin.«zip.__new__» ⟨[.type "zip",.ref l1,.ref l2],[]⟩) (λ_ R s=>IsSq t1 s.heap l1 xs/\IsSq t2 s.heap l2 ys/\
   R (.ok (.ret (.ref (xh4 t1 t2 s.heap l1 l2).objs.size))) {s with heap:=xh5 t1 t2 s.heap l1 l2}):=
 .of_wp λprog w A R s h=>by
  obtain⟨hp,g,d,tk,os⟩:=s;obtain⟨hl1,hl2,h⟩:=h;have hsub:=sub_zip;cases t1
  ·have hL1:Heap.IsList (Shared.heap ⟨hp,g,d,tk,os⟩) l1 xs:=hl1;cases t2
   ·have hL2:Heap.IsList (Shared.heap ⟨hp.push {cls:=.type "list_iterator",data:=.fields #[.ref l1,.int 0 0]},g,d,tk,os⟩) l2 ys:=Heap.IsList.push hl2 _
    wp_walk using wpAny_pyIter_list hL1,wpAny_pyIter_list hL2
    exact⟨_,rfl,h⟩
   ·have hL2:Heap.IsTuple (Shared.heap ⟨hp.push {cls:=.type "list_iterator",data:=.fields #[.ref l1,.int 0 0]},g,d,tk,os⟩) l2 ys:=Heap.IsTuple.push hl2 _
    wp_walk using wpAny_pyIter_list hL1,wpAny_pyIter_tuple hL2
    exact⟨_,rfl,h⟩
  ·have hL1:Heap.IsTuple (Shared.heap ⟨hp,g,d,tk,os⟩) l1 xs:=hl1;cases t2
   ·have hL2:Heap.IsList (Shared.heap ⟨hp.push {cls:=.type "tuple_iterator",data:=.fields #[.ref l1,.int 0 0]},g,d,tk,os⟩) l2 ys:=Heap.IsList.push hl2 _
    wp_walk using wpAny_pyIter_tuple hL1,wpAny_pyIter_list hL2
    exact⟨_,rfl,h⟩
   ·have hL2:Heap.IsTuple (Shared.heap ⟨hp.push {cls:=.type "tuple_iterator",data:=.fields #[.ref l1,.int 0 0]},g,d,tk,os⟩) l2 ys:=Heap.IsTuple.push hl2 _
    wp_walk using wpAny_pyIter_tuple hL1,wpAny_pyIter_tuple hL2
    exact⟨_,rfl,h⟩
theorem NE{t:Bool}{h:Heap}{i l:Addr}(e:h.get? i=some (itO t l)):IsIt t h i l 0:=by
 cases t
 ·exact⟨_,e,rfl,rfl⟩
 ·exact⟨_,e,rfl,rfl⟩
section
variable{prog:Program}{w:World}{A:Around}{E:Value->Shared->Prop}{s:Shared}
theorem call_zipX{t1 t2:Bool}{l1 l2:Addr}{xs ys:Array Value}{Q:Value->Shared->Prop}(hl1:IsSq t1 s.heap l1 xs)(hl2:IsSq t2 s.heap l2 ys)
  (h:∀h',IsZip h' (s.heap.objs.size+4) (s.heap.objs.size+2) (s.heap.objs.size+3) .none->IsPair h' (s.heap.objs.size+2) (.ref s.heap.objs.size) (.ref (s.heap.objs.size+1))->
   IsPair h' (s.heap.objs.size+3) .none .none->IsIt t1 h' s.heap.objs.size l1 0->IsIt t2 h' (s.heap.objs.size+1) l2 0->h'.objs.size=s.heap.objs.size+5->
   (∀c o,s.heap.get? c=some o->h'.get? c=some o)->Q (.ref (s.heap.objs.size+4)) {s with heap:=h'}):
  wpAny (model prog w) A (call (.type "zip") [.ref l1,.ref l2]) Q E s:=by
 refine callType_new F.called_zip (by decide) (F.typeCall_zip_2 _ _) (F.newCall_zip_2 _ _) (λobj=>F.args_object_init_3 obj _ _) F.entry_zip_new
  (OX t1 t2 l1 l2 xs ys) ⟨hl1,hl2, ?_⟩
 have z1:(xh1 t1 s.heap l1).objs.size=s.heap.objs.size+1:=Heap.size_push ..;have z2:(xh2 t1 t2 s.heap l1 l2).objs.size=s.heap.objs.size+2:=by rw[Heap.size_push,z1]
 have z3:(xh3 t1 t2 s.heap l1 l2).objs.size=s.heap.objs.size+3:=by rw[Heap.size_push,z2]
 have z4:(xh4 t1 t2 s.heap l1 l2).objs.size=s.heap.objs.size+4:=by rw[Heap.size_push,z3]
 have z5:(xh5 t1 t2 s.heap l1 l2).objs.size=s.heap.objs.size+5:=by rw[Heap.size_push,z4]
 have g5:(xh5 t1 t2 s.heap l1 l2).get? (xh4 t1 t2 s.heap l1 l2).objs.size=some _:=get?_push_size _ rfl;have g4:(xh5 t1 t2 s.heap l1 l2).get? (xh3 t1 t2 s.heap l1 l2).objs.size=some _:=gZ _ (get?_push_size _ rfl);have g3:(xh5 t1 t2 s.heap l1 l2).get? (xh2 t1 t2 s.heap l1 l2).objs.size=some _:=gZ _ (gZ _ (get?_push_size _ rfl));have g2:(xh5 t1 t2 s.heap l1 l2).get? (xh1 t1 s.heap l1).objs.size=some (itO t2 l2):=gZ _ (gZ _ (gZ _ (get?_push_size _ (by cases t2<;>rfl))));have g1:(xh5 t1 t2 s.heap l1 l2).get? s.heap.objs.size=some (itO t1 l1):=gZ _ (gZ _ (gZ _ (gZ _ (get?_push_size _ (by cases t1<;>rfl)))));show _/\_;rw[z2,z3,z4]at g5;rw[z1,z2]at g3;rw[z3]at g4;rw[z1]at g2;rw[z4];exact⟨⟨_,g5,rfl⟩,h _ g5 g3 g4 (NE g1) (NE g2) z5 λc o x=>
  gZ _ (gZ _ (gZ _ (gZ _ (gZ _ x))))⟩
end
end ZT
end PySem
namespace _L
open PySem PySem.Spec PyProof.Rows
theorem Y7{t:Bool}{h:Heap}{l:Addr}{xs:Array Value}(x:ZT.IsSq t h l xs):l<h.objs.size:=by
 cases t
 ·obtain⟨o,e,_⟩:=(show h.IsList l xs from x);exact lt_size e
 ·obtain⟨o,e,_⟩:=(show h.IsTuple l xs from x);exact lt_size e
noncomputable def Izt(t1 t2:Bool)(K:FZ)(l1 l2:Addr):It:=
 ⟨λi H=>∃xs ys x y,SqX t1 K H l1 xs/\SqX t2 K H l2 ys/\xs[i]? =some x/\ys[i]? =some y,
  λi H v H'=>∃T x y,(∀xs ys,SqX t1 K H l1 xs->SqX t2 K H l2 ys->xs[i]? =some x/\ys[i]? =some y)/\H T=none/\v=.ref T/\H'=upd H T (.tup [x,y]),
  λi H=>∃xs ys,SqX t1 K H l1 xs/\SqX t2 K H l2 ys/\(xs.length<=i\/ys.length<=i)⟩
noncomputable def bOZ(t1 t2:Bool)(z TI TO i1 i2 l1 l2:Addr)(i:Nat)(h:Heap):Prop:=IsZip h z TI TO .none/\IsPair h TI (.ref i1) (.ref i2)/\(∃a b,IsPair h TO a b)/\ZT.IsIt t1 h i1 l1 i/\ZT.IsIt t2 h i2 l2 i
theorem TF{t1 t2:Bool}{P:Program}{w:World}{K:FZ}{elts:List Expr}{kt:Nat}{pt:Pos}{z TI TO i1 i2 l1 l2:Addr}(D:ZipApart z TI TO i1 i2 l1 l2):
  Turn P w K (.Tuple elts kt pt) (Izt t1 t2 K l1 l2) [z,TI,TO,i1,i2] z (bOZ t1 t2 z TI TO i1 i2 l1 l2) where
 mem:=by simp
 obj:=λi h st b hb=>by
  obtain⟨hz,hTI,⟨a,b',hTO⟩,h1,h2⟩:=st;simp only[mem_cons,not_mem_nil,or_false]at hb;rcases hb with rfl|rfl|rfl|rfl|rfl
  ·exact⟨_,hz,λv q=>by cases q⟩
  ·exact⟨_,hTI,λv q=>by cases q⟩
  ·exact⟨_,hTO,λv q=>by cases q⟩
  ·exact MV h1
  ·exact MV h2
 keep:=λi h h' st k=>by
  obtain⟨hz,hTI,⟨a,b',hTO⟩,h1,h2⟩:=st;exact⟨k z (by simp) _ hz,k TI (by simp) _ hTI,⟨a,b',k TO (by simp) _ hTO⟩,h1.at λo e=>k i1 (by simp) o e,h2.at λo e=>k i2 (by simp) o e⟩
 item:=by
  intro X hP hw hK hc i pins s σ H E I hf st hg;subst hP hw hK;obtain⟨xs,ys,x,y,q1,q2,hx,hy⟩:=hg;obtain⟨hz,hTI,⟨a,b,hTO⟩,h1,h2⟩:=st;obtain⟨its,rv,p,hsz⟩:=I.sqx q1;obtain⟨its2,rv2,p2,hsz2⟩:=I.sqx q2;obtain⟨u,hu,ru⟩:=rv.get hx;obtain⟨u2,hu2,ru2⟩:=rv2.get hy;refine ZT.pyNext_fresh0 (t1:=t1) (t2:=t2) D hz hTI hTO h1 h2 p p2 (x:=u) (y:=u2) (by simpa using hu) (by simpa using hu2) λh' a1 a3 a4 a5 a6 hk a2=> ?_;have hT0:H s.heap.objs.size=none:=I.hok.fresh (Nat.le_refl _);have J1:Inv X pins σ (upd H s.heap.objs.size (.tup [x,y])) {s with heap:=s.heap.push {cls:=.type "tuple",data:=.seq #[u,u2]}}:=
   I.laid (t':=s.toks) (λb o e=>gZ _ e) (Nat.le_refl _) (show ObjOk X.prog X.w _ _ _ (.tup [x,y])from⟨(by show 2<=sizeLine;decide),[u,u2],.cons ru (.cons ru2 .nil),IsTup.new _ _⟩)
  have lt:∀b∈ [z,TI,TO,i1,i2],b≠s.heap.objs.size:=λb hb=>by
   simp only[mem_cons,not_mem_nil,or_false]at hb;rcases hb with rfl|rfl|rfl|rfl|rfl
   ·exact ne_of_lt (lt_size hz)
   ·exact ne_of_lt (lt_size hTI)
   ·exact ne_of_lt (lt_size hTO)
   ·obtain⟨o,e⟩:=h1.live;exact ne_of_lt (lt_size e)
   ·obtain⟨o,e⟩:=h2.live;exact ne_of_lt (lt_size e)
  have hf2:∀b∈ [z,TI,TO,i1,i2],JD X pins (upd H s.heap.objs.size (.tup [x,y])) b:=λb hb=>⟨by rw[B9 (lt b hb)];exact(hf b hb).1,(hf b hb).2⟩;have J2:Inv X pins σ (upd H s.heap.objs.size (.tup [x,y])) {s with heap:=h'}:=Inv.turnedL (s:={s with heap:=s.heap.push {cls:=.type "tuple",data:=.seq #[u,u2]}}) (t':=s.toks) (h':=h') (ch:=[z,TI,TO,i1,i2]) J1 (λb o hb e=>by
   rcases Heap.get?_push_cases e with⟨rfl,rfl⟩|e'
   ·exact a5
   ·simp only[mem_cons,not_mem_nil,or_false,not_or]at hb;exact hk b o hb.1 hb.2.2.1 hb.2.2.2.1 hb.2.2.2.2 e') hf2
  refine⟨.ref s.heap.objs.size,rfl, ?_⟩;refine wpAny_letOwnedTupleGo_zip (s:={s with heap:=h'}) a1 λh2' hz' hs'=> ?_;obtain⟨g0,g1,g2,g3,g4,g5⟩:=hf2 z (by simp);refine⟨.ref s.heap.objs.size,_,J2.turned (t':=s.toks) (λb o hb e=>(hs'.2 b hb).trans e) g0 g1 g3 g4 g5,rfl,⟨s.heap.objs.size,x,y,λxs' ys' e1 e2=> ?_,hT0,rfl,rfl⟩, ?_,λb hb=>(hf2 b hb).1⟩
  ·rw[I.sqx_inj e1 q1,I.sqx_inj e2 q2];exact⟨hx,hy⟩
  ·exact⟨hz',hs'.extBut _ _ D.TIz (hk _ _ D.TIz D.TITO D.TIi1 D.TIi2 hTI),⟨_,_,hs'.extBut _ _ D.TOz a2⟩,a3.extBut hs'.extBut D.i1z,a4.extBut hs'.extBut D.i2z⟩
 done:=by
  intro X hP hw hK hc i pins s σ H E I hf st hg;subst hP hw hK;obtain⟨xs,ys,q1,q2,hend⟩:=hg;obtain⟨hz,hTI,⟨a,b,hTO⟩,h1,h2⟩:=st;obtain⟨its,rv,p,hsz⟩:=I.sqx q1;obtain⟨its2,rv2,p2,hsz2⟩:=I.sqx q2;have l1e:=rv.length;have l2e:=rv2.length;refine ZT.pyNext_fend (t1:=t1) (t2:=t2) (I.ok.hd hc) D hz hTI hTO h1 h2 p p2 (by
   rcases hend with h|h
   ·exact .inl (by simp;omega)
   ·exact .inr (by simp;omega)) λh' hk=>⟨rfl,I.turnedL (t':=s.toks) (ch:=[z,TI,TO,i1,i2]) (λb o hb e=> ?_) hf⟩
  simp only[mem_cons,not_mem_nil,or_false,not_or]at hb;exact hk b o hb.1 hb.2.2.1 hb.2.2.2.1 hb.2.2.2.2 e
 self:=λ_ _ _ _ _ st h=>wpAny_pyIter_zip st.1 h
section
variable{X:Cx}{K:FZ}{elts:List Expr}{kt:Nat}{pt:Pos}
noncomputable def cQZ(t1 t2:Bool)(K:FZ)(ta:TA):TI:=fun σ H R=>ta σ H λvs H1=>∃a b xs ys,vs=[.ref a,.ref b]/\SqX t1 K H1 a xs/\SqX t2 K H1 b ys/\R (Izt t1 t2 K a b) H1
theorem SG(t1 t2:Bool){a b:Expr}{ta:TA}{p pos:Pos}(hg:Gl X "zip")(hm:X.mg "zip"=none)(ha:PA X [a,b] ta)(hK:X.K=K:=by rfl)(hs:starEach [a,b] X.env=[(false,eval a X.env),(false,eval b X.env)]:=by rfl)(hs2:starEach [b] X.env=[(false,eval b X.env)]:=by rfl):
  PI X (.Tuple elts kt pt) (.Call (.Name "zip" p) [a,b] [] pos) (cQZ t1 t2 K ta):=by
 subst hK;intro pins s σ H R I h;refine Call_ (Q0 I hg hm ME (callWith_type1 (thn (ha pos pins s σ H _ I h) λus s1 ⟨vs,H1,I1,r1,q1⟩=> ?_) (by rw[hs,hs2]) (by rw[hs2];rfl)));obtain⟨l1,l2,xs,ys,e,q1,q2,q⟩:=q1;subst e;cases r1 with
 |cons r rr=>
  cases rr with
  |cons r' rr=>
   cases rr;cases r;cases r';obtain⟨its,rv,pl,hz⟩:=I1.sqx q1;obtain⟨its2,rv2,pl2,hz2⟩:=I1.sqx q2;have lt1:l1<s1.heap.objs.size:=Y7 pl;have lt2:l2<s1.heap.objs.size:=Y7 pl2;refine ZT.call_zipX pl pl2 λh' a1 a2 a3 a4 a5 a6 hk=> ?_;refine wpAny_pyIter_zip a1 ?_;refine⟨s1.heap.objs.size+4,[s1.heap.objs.size+4,s1.heap.objs.size+2,s1.heap.objs.size+3,s1.heap.objs.size,s1.heap.objs.size+1],_,_,H1,rfl,I1.kept (t':=s1.toks) hk,TF (t1:=t1) (t2:=t2) (zipApart_new lt1 lt2),⟨a1,a2,⟨_,_,a3⟩,a4,a5⟩,λb hb=> ?_,q⟩;have hle:s1.heap.objs.size<=b:=by
    simp only[mem_cons,not_mem_nil,or_false]at hb;rcases hb with rfl|rfl|rfl|rfl|rfl
    ·exact le_add_right _ _
    ·exact le_add_right _ _
    ·exact le_add_right _ _
    ·exact Nat.le_refl _
    ·exact le_add_right _ _
   exact I1.fpOk hle (I1.hok.fresh hle)
end
theorem WI{t1 t2:Bool}{K:FZ}{l1 l2:Addr}{xs ys:List V}{g:TG}{tb:TS}{D:Ends}{σ:St}{H:Hp}(hle:xs.length=ys.length)(Pv:Nat->St->Hp->Prop)(h0:Pv 0 σ H)(hl:∀i σ H,i<=xs.length->Pv i σ H->SqX t1 K H l1 xs/\SqX t2 K H l2 ys)
  (hs:∀i x y σ H T,xs[i]? =some x->ys[i]? =some y->Pv i σ H->H T=none->g (.ref T) σ (upd H T (.tup [x,y])) fun σ2 H2=>tb {D with nx:=Pv (i+1),ct:=Pv (i+1),bk:=D.nx} σ2 H2)(hd:∀σ H,Pv xs.length σ H->D.nx σ H):
  ∃W:Nat->Nat->St->Hp->Prop,(∃m,W 0 m σ H)/\∀i m σ H,W i m σ H->
   ((Izt t1 t2 K l1 l2).stop i H/\D.nx σ H)\/((Izt t1 t2 K l1 l2).go i H/\∃N:St->Hp->Prop,(∀σ' H',N σ' H'->∃m',m'<m/\W (i+1) m' σ' H')/\∀x H',(Izt t1 t2 K l1 l2).yld i H x H'->g x σ H' fun σ2 H2=>tb {D with nx:=N,ct:=N,bk:=D.nx} σ2 H2):=by
 refine⟨λi m σ H=>m=xs.length - i/\i<=xs.length/\Pv i σ H,⟨_,rfl,zero_le _,h0⟩, ?_⟩;rintro i m σ H ⟨rfl,hi,p⟩;obtain⟨q1,q2⟩:=hl i σ H hi p;by_cases hlt:i<xs.length
 ·have hlt2:i<ys.length:=by omega
  refine .inr ⟨⟨xs,ys,xs[i],ys[i],q1,q2,by simp[hlt],by simp[hlt2]⟩,Pv (i+1),fun σ' H' p'=>⟨xs.length - (i+1),by omega,rfl,hlt,p'⟩,λv H' y=> ?_⟩;obtain⟨T,x,z,y1,hT,rfl,rfl⟩:=y;obtain⟨e1,e2⟩:=y1 xs ys q1 q2;exact hs i x z σ H T e1 e2 p hT
 ·have e:i=xs.length:=by omega
  subst e;exact .inl ⟨⟨xs,ys,q1,q2,.inl (Nat.le_refl _)⟩,hd σ H p⟩
theorem acZ{X:Cx}:S7 X (.type "dict") (λxs H Q=>∃d kvs,xs=[V.ref d]/\Rd H d (.dK kvs)/\∀p,H p=none->Q (.ref p) (upd H p (.dK kvs))):=λpins s σ H xs us Q I r h=>by
 obtain⟨d,kvs,rfl,hd,q⟩:=h;obtain⟨u,rfl,ru⟩:=BD r;cases ru;exact XU I hd λp s' hp I2=>⟨.ref p,_,I2,rfl,q p hp⟩
end _L
namespace PySem
open Sem (wp)
end PySem
namespace _L
open PySem PySem.Spec PyProof.Rows
section
variable{M:Model}{A:Around}{E:Value->Shared->Prop}{s:Shared}{base:Heap}{env:Env}{outer l:List Env}{L a:Addr}{C fl:Value}{g:Heap}{H:Hp}{Q:Unit->Shared->Prop}
end
section
variable{P:Program}{w:World}{K:FZ}{mg:Str->Option Value}{base:Heap}{N:List Str}{qual:Str}{scope:Scope}{f:Addr}{cd:Value}{A:Around}{outer:List Env}{s:Shared}{H:Hp}{E:XK}
variable{X:Cx}
variable{k:Nat}{g:Addr}{fd:FuncData}{ps:List Str}{sp:Heap->Sp}{x:Str}{p pos:Pos}{e:Expr}{es:List Expr}{t:TA}{name:Str}{params:Arguments}{body:Expr}{clos:List (Str×Addr)}{pm:Value}{fs:List Str}{js:List Nat}
variable{cl:List (Str×Addr)}
variable{pins:List (Addr×Obj)}{σ:St}
end
theorem ixT{K:FZ}{w:World}{H:Hp}{Q:VK}{a:Addr}{xs:List V}{i:Int}{v:V}(h:H a=some (.tup xs))(e:atI xs i=some v)(q:Q v H):rIxL K (.ref a) (.int i) H Q\/rIxT K (.ref a) (.int i) H Q\/rIxS (.ref a) (.int i) H Q\/rIxTop w K (.ref a) (.int i) H Q:=.inr (.inl ⟨a,xs,i,v,rfl,rfl,SqT.of h,e,q⟩)
theorem ixL{K:FZ}{w:World}{H:Hp}{Q:VK}{a:Addr}{xs:List V}{i:Int}{v:V}(h:H a=some (.lst xs))(e:atI xs i=some v)(q:Q v H):rIxL K (.ref a) (.int i) H Q\/rIxT K (.ref a) (.int i) H Q\/rIxS (.ref a) (.int i) H Q\/rIxTop w K (.ref a) (.int i) H Q:=.inl ⟨a,xs,i,v,rfl,rfl,SqL.of h,e,q⟩
theorem fS{N P:List Str}{sc:Scope}(a:sc.kind=.function:=by rfl)(b:sc.isCoroutine=false:=by rfl)(c:sc.isGenerator=false:=by rfl)(d:N.Nodup:=by decide +kernel)(e:N.take P.length=P:=by rfl)(f:∀x∈P,sc.names.lookup x=some .local\/sc.names.lookup x=some .cell:=by decide +kernel)(g:∀y∈sc.names,y.2≠ .free:=by decide +kernel):FnScope N P sc:=⟨a,b,c,d,e,f,g⟩
theorem cS{N:List Str}{sc scope:Scope}{x:Str}{caps:List Nat}{ns:List Str}(a:∀y∈scope.names,y.2≠ .cell:=by decide +kernel)(b:scope.kind=.function:=by rfl)(c:∀y∈scope.names,y.2=.local->scope.names.lookup y.1=some .local:=by decide +kernel)(d:scope.names.lookup x=some .local:=by rfl)(e:∀y∈scope.names,y.2=.free->sc.names.lookup y.1=some .cell\/sc.names.lookup y.1=some .free:=by decide +kernel)(f:caps.map (λj=>N[j]?)=ns.map some:=by rfl)(g:∀y∈ns,scope.names.lookup y=some .free:=by decide +kernel)(h:(x::ns).Nodup:=by decide +kernel):CompScope N sc scope x caps ns:=⟨a,b,c,d,e,f,g,h⟩
section
variable{X:Cx}{a b:Expr}{ta tb:TE}{pos:Pos}
theorem ixE(K:FZ)(w:World)(ha:PE X a ta)(hb:PE X b tb)(hs:RL b:=by exact λ_ _=>rfl)(hK:X.K=K:=by rfl)(hw:X.w=w:=by rfl):PE X (.Subscript a b pos) (tOp (λx y H Q=>rIxL K x y H Q\/rIxT K x y H Q\/rIxS x y H Q\/rIxTop w K x y H Q) ta tb):=GM (kIx hK hw) ha hb hs
end
noncomputable def Cn(P:Program)(w:World)(K:FZ)(mg:Str->Option Value)(base:Heap)(CX:CXT)(n:Nat)(x:Str)(ps:List Str)(sp:Sp):Prop:=∃f d,FnOk P w K mg base CX n f d ps sp/\Binds K d ps []/\kZ K (.ref f)=true/\mg x=some (.ref f)
end _L
noncomputable abbrev q2L:List PySem.Str:=["_law_cell_here","_law_name_here"]
noncomputable abbrev q4L:List PySem.Str:=["_law_cell_here","_law_names_here","_law_own_here","_law_other"]
noncomputable abbrev q6L:List PySem.Str:=["_law_cell_here"]
noncomputable abbrev W7:List PySem.Str:=["_law_cells","_law_spot","_law_kind_here","_law_names_here","_law_funs","_law_depth"]
noncomputable abbrev IW:List PySem.Str:=["_law_cells","_law_spot","_law_kind_here","_law_names_here"]
noncomputable abbrev NP:List PySem.Str:=["_law_cells","_law_spot","_law_kinds","_law_names_here","_law_funs","_law_depth"]
noncomputable abbrev ES:List PySem.Str:=["_law_cells","_law_spot"]
noncomputable abbrev cbZ:List PySem.Str:=["_law_found","_law_due"]
noncomputable abbrev bFZ:List PySem.Str:=["_law_k","_law_shift"]
noncomputable abbrev EK:List PySem.Str:=["_law_names_here","_law_name_here","_law_kind_here"]
noncomputable abbrev MP:List PySem.Str:=["_law_one","_law_other","_law_left"]
noncomputable abbrev LX:List PySem.Str:=["_law_program_here","_law_state","_law_most"]
noncomputable abbrev JG:List PySem.Str:=["_law_script","_law_k"]
noncomputable abbrev boZ:List PySem.Str:=["_law_script","_law_most"]
noncomputable abbrev qL9:List PySem.Str:=["_law_script","_law_one","_law_names_here","_law_spot","_law_known","_law_funs"]
noncomputable abbrev EL:List PySem.Str:=["_law_shift"]
noncomputable abbrev aaZ:List PySem.Str:=["_law_state","_law_pile","_law_most","_law_term","_law_bound"]
noncomputable abbrev PH:List PySem.Str:=["_law_value"]
noncomputable abbrev bxZ:List PySem.Str:=["_law_wait","_law_value"]
noncomputable abbrev atZ:List PySem.Str:=["body","bound","rest","most"]
noncomputable abbrev bLZ:List PySem.Str:=["fn","value","rest","most"]
noncomputable abbrev bgZ:List PySem.Str:=["focus","waits","rest"]
noncomputable abbrev bvZ:List PySem.Str:=["name","bound"]
noncomputable abbrev ZY:List PySem.Str:=["names","values"]
noncomputable abbrev aeZ:List PySem.Str:=["program","name","values","rest","most"]
noncomputable abbrev ZP:List PySem.Str:=["program","name"]
noncomputable abbrev bdZ:List PySem.Str:=["program","numbers"]
noncomputable abbrev LA:List PySem.Str:=["program","state","most"]
noncomputable abbrev beZ:List PySem.Str:=["root","parts_in","made"]
noncomputable abbrev UA:List PySem.Str:=["sign","a","b"]
noncomputable abbrev TB:List PySem.Str:=["term","bound"]
noncomputable abbrev b2Z:List PySem.Str:=["top","value","rest"]
noncomputable abbrev a8Z:List PySem.Str:=["top","value"]
noncomputable abbrev caZ:List PySem.Str:=["value","items"]
noncomputable abbrev JB:List PySem.Str:=["value"]
namespace TM
open PySem PyProof.Rows
section
variable{prog:Program}{w:World}{A:Around}{E:Value->Shared->Prop}{s:Shared}
end
end TM
namespace _L
open PySem PySem.Spec PyProof.Rows
section
variable{X:Cx}{K:FZ}
end
end _L
namespace _L
open PySem PyProof.Rows
section
variable{X:Cx}
end
end _L
namespace _L
open PySem PySem.Spec PyProof.Rows
section
variable{X:Cx}{K:FZ}
end
end _L
namespace _L
open PySem PySem.Spec PyProof PyProof.Rows
section
variable{prog:Program}{w:World}{A:Around}{E:Value->Shared->Prop}
variable{X:Cx}{pos:Pos}
end
end _L
namespace _L
open PySem PySem.Spec PyProof.Rows
section
variable{X:Cx}{K:FZ}
end
theorem Room.u1{k:Nat}{A:Around}(hr:Room k A):A.units+1<cLine:=lt_of_le_of_lt (Nat.add_le_add_left (by decide:1<=64) _) hr.units
section
variable{X:Cx}{k j:Nat}{ps:List Str}{sp:Sp}{x m:Str}{p pos apos:Pos}{e o:Expr}{es:List Expr}{ta te:TE}{t:TA}{f C:Addr}{fd:FuncData}
theorem cC(c:Cn X.prog X.w X.K X.mg X.base CX0 k x ps sp)(hr:Room j X.A)(ha:PA X (e::es) t)(hk:k<=j:=by omega)(hg:Gl X x:=by exact rfl)
  (hdb:(x==("__debug__":Str))=false:=by decide)(he:starEach (e::es) X.env=(false,eval e X.env)::starEach es X.env:=by rfl)(hpl:(backTo pos (starEach es X.env)).any (·.1)=false:=by rfl):
  PE X (.Call (.Name x p) (e::es) [] pos) (XZ sp [] E0 t):=by
 obtain⟨f,d,F,hb,hk',hm⟩:=c;exact C8 F (hr.mono hk) hg hm hk' hb .nil E5 ha hdb he hpl
theorem mC{pl:Sem Bool}(he:PE X o ta)(c:Cls X.K C)(hm:Meth X.K C m f)(F:FnOk X.prog X.w X.K X.mg X.base CX0 k f fd ps sp)(hr:Room j X.A)(hb:Binds X.K fd ps [])(ha:PA X (e::es) t)(hk:k<=j:=by omega)
  (hst:starEach (e::es) X.env=(false,eval e X.env)::starEach es X.env:=by rfl)(hpl:(backTo pos (starEach es X.env)).any (·.1)=false:=by rfl)
  (ht:eval (.Call (.Attribute o m apos) (e::es) [] pos) X.env=(do
   let ov<-eval o X.env
   standAt apos.atName
   let(f,first)<-holding [ov] (getMethod ov m pl)
   callWith pos f first (backTo pos (starEach (e::es) X.env)) (backToKw pos (keywordEach [] X.env))):=by rfl):
  PE X (.Call (.Attribute o m apos) (e::es) [] pos) (SF C m sp [] E0 ta t):=ZM (pl:=pl) he c hm F (hr.mono hk) hb .nil E5 ha hst hpl ht
theorem mN{pl:Sem Bool}(he:PE X o ta)(c:Cls X.K C)(hm:Meth X.K C m f)(F:FnOk X.prog X.w X.K X.mg X.base CX0 k f fd ps sp)(hr:Room j X.A)(hb:Binds X.K fd ps [])(hk:k<=j:=by omega)
  (ht:eval (.Call (.Attribute o m apos) [] [] pos) X.env=(do
   let ov<-eval o X.env
   standAt apos.atName
   let(f,first)<-holding [ov] (getMethod ov m pl)
   callWith pos f first (backTo pos (starEach [] X.env)) (backToKw pos (keywordEach [] X.env))):=by rfl):
  PE X (.Call (.Attribute o m apos) [] [] pos) (SF C m sp [] E0 ta PB):=UT (pl:=pl) he c hm F (hr.mono hk) hb .nil E5 ht
theorem sS{pos':Pos}(i:Nat)(hN:X.N.Nodup)(he:PE X e te)(hi:X.N[i]? =some x:=by exact rfl)(hx:Loc X.env.scope x:=by exact Or.inl rfl)(hs:swapsWith e (some (.Name x pos')) pos.line X.env=pure false:=by rfl)(hf:X.fn x=true\/X.env.scope.names.lookup x=some .local:=by first|exact .inl rfl|exact .inr rfl|assumption):
  PS X (.Assign [.Name x pos'] e pos) (XJ te (GD i)):=BS hN hi hx he hs hf
theorem gN(i:Nat)(hN:X.N.Nodup)(hi:X.N[i]? =some x:=by exact rfl)(hx:Loc X.env.scope x:=by exact Or.inl rfl)(hf:X.fn x=true\/X.env.scope.names.lookup x=some .local:=by first|exact .inl rfl|exact .inr rfl|assumption):PG X (.Name x pos) (GD i):=EV hN hi hx hf
theorem kL(K:FZ)(hm:X.mg "len"=none)(hx:PE X e te)(hK:X.K=K:=by rfl)(hg:Gl X "len":=by exact rfl)
  (he:starEach [e] X.env=(false,eval e X.env)::starEach [] X.env:=by rfl)(hpl:(backTo pos (starEach [] X.env)).any (·.1)=false:=by rfl):PE X (.Call (.Name "len" p) [e] [] pos) (tCB (rLen K) (V8 te PB)):=J7 (cDZ hK) hg hm YV (A0 hx A5 he) (by decide) (by decide) he hpl
variable{cpos cp:Pos}{td:TE}
theorem aP(K:FZ)(ho:PE X o td)(he:PE X e te)(hK:X.K=K:=by rfl)
  (hbase:attributeBase o "append" X.env (eval o X.env)=eval o X.env:=by rfl)
  (hfew:((backTo cpos (starEach [e] X.env)).all (λx=> !x.1)&&(backToKw cpos (keywordEach [] X.env)).all (λx=>x.1.isSome)
   &&decide ([e].length+([]:List Keyword).length+(if([]:List Keyword).isEmpty then 0 else 1)<30))=true:=by rfl)
  (hline:(apos.endLine==cpos.line)=true:=by rfl)(hs:starEach [e] X.env=(false,eval e X.env)::starEach [] X.env:=by rfl)(hplain:(backTo cpos (starEach [] X.env)).any (·.1)=false:=by rfl):
  PE X (.Call (.Attribute o "append" apos) [e] [] cpos) (tBM K "list" rAppend td (V8 te PB)):=
 aqZ PySem.F.plainAttrs_list PySem.F.slot_list_append PySem.F.type_list_append TQ ho (A0 he A5 hs) hK hbase hfew hline hs hplain
theorem dS(hr:Room k X.A)(ho:PE X o td):PE X (.Subscript o (.Constant (.str x) j cp) pos) (aKZ td (tC (.str x))):=LL hr.u1 ho A7 (λ_ _=>rfl)
end
theorem Fun.om{P:Program}{w:World}{K:FZ}{mg:Str->Option Value}{base:Heap}{x qual:Str}{st:Stmt}{f:Addr}{fd:FuncData}{N ps:List Str}{k:Nat}{sp:Sp}(F:Fun K x qual st f fd)(S:FnScope N ps (B3 st))
  (hbody:∀(cdv:Value) (A:Around) (outer:List Env) (s:Shared) (H:Hp) (vs:List V) (Q:VK) (E:XK),Room k (A.deeper (envOfC qual (B3 st) s.heap.objs.size f cdv))->sp vs H Q E->
   ∃t,PSs (OW CX0 P w K mg base N qual (B3 st) f cdv A outer s H E).nox (K2 st) t/\t {nx:=λ_ H'=>Q .non H',rt:=Q} (start N vs) H)
  (len:∀vs H Q E,sp vs H Q E->vs.length=ps.length:=by intro _ _ _ _ h;cases h;subst_vars;rfl):FnOk P w K mg base CX0 (k+1) f fd ps sp:=F.ok S len hbody
section
variable{X:Cx}{K:FZ}
variable{c:Expr}{pos:Pos}{a b:List Stmt}{tc:TT}{ta tb:TSX}
end
theorem UC{t1 t2:Bool}{K:FZ}{l1 l2:Addr}{xs ys:List V}{caps:List Nat}{tt:TT}{te:TE}{σ:St}{H:Hp}{R:List V->Hp->Prop}(hle:xs.length=ys.length)(Pv:Nat->List V->Hp->Prop)(h0:Pv 0 [] H)
  (hl:∀i zs H,i<=xs.length->Pv i zs H->SqX t1 K H l1 xs/\SqX t2 K H l2 ys/\zs.length<=sizeLine)
  (hs:∀i x y zs H T,xs[i]? =some x->ys[i]? =some y->Pv i zs H->H T=none->tt (capσ2 caps σ (some x) (some y)) (upd H T (.tup [x,y])) λb H2=>if b=true then te (capσ2 caps σ (some x) (some y)) H2 λz H3=>Pv (i+1) (zs++ [z]) H3 else Pv (i+1) zs H2)
  (hd:∀zs H,Pv xs.length zs H->R zs H):
  ∃W:Nat->Nat->List V->Hp->Prop,(∃m,W 0 m [] H)/\∀i m zs H,W i m zs H->zs.length<=sizeLine/\(((Izt t1 t2 K l1 l2).stop i H/\R zs H)\/((Izt t1 t2 K l1 l2).go i H/\∃N:List V->Hp->Prop,(∀ys' H',N ys' H'->∃m',m'<m/\W (i+1) m' ys' H')/\∀v H',(Izt t1 t2 K l1 l2).yld i H v H'->
   ∃a v1 v2,v=.ref a/\SqT K H' a [v1,v2]/\tt (capσ2 caps σ (some v1) (some v2)) H' λb H2=>if b=true then te (capσ2 caps σ (some v1) (some v2)) H2 λy H3=>N (zs++ [y]) H3 else N zs H2)):=by
 refine⟨λi m zs H=>m=xs.length - i/\i<=xs.length/\Pv i zs H,⟨xs.length,by simp,zero_le _,h0⟩, ?_⟩;rintro i m zs H ⟨rfl,hi,p⟩;obtain⟨q1,q2,hz⟩:=hl i zs H hi p;refine⟨hz, ?_⟩;by_cases hlt:i<xs.length
 ·have hlt2:i<ys.length:=by omega
  refine .inr ⟨⟨xs,ys,xs[i],ys[i],q1,q2,by simp[hlt],by simp[hlt2]⟩,Pv (i+1),λys' H' p'=>⟨xs.length - (i+1),by omega,rfl,hlt,p'⟩,λv H' y=> ?_⟩;obtain⟨T,x,z,y1,hT,rfl,rfl⟩:=y;obtain⟨e1,e2⟩:=y1 xs ys q1 q2;exact⟨T,x,z,rfl,SqT.of A2,hs i x z zs H T e1 e2 p hT⟩
 ·have e:i=xs.length:=by omega
  subst e;exact .inl ⟨⟨xs,ys,q1,q2,.inl (Nat.le_refl _)⟩,hd zs H p⟩
end _L
namespace _L
open PySem PySem.Spec PyProof.Rows PySem.Builtin PySem.Builtin.Str
section
variable{X:Cx}
end
end _L
namespace _L
open PySem PySem.Spec PyProof.Rows
section
variable{X:Cx}
end
end _L
namespace PySem
open Sem(wp)
open PyProof.Rows
namespace ZT
structure Zn(N l1 l2:Nat)(h:Heap):Prop where
 z:IsZ h (N+4) (N+2) (N+3) .none (.bool false)
 ti:IsPair h (N+2) (.ref N) (.ref (N+1))
 to:IsPair h (N+3) .none .none
 i1:IsIt false h N l1 0
 i2:IsIt false h (N+1) l2 0
section
variable{prog:Program}{w:World}{A:Around}{R:Result->Shared->Prop}{s:Shared}{N l1 l2:Nat}{h:Heap}{res:Value}
theorem XQ(hh:A.handled=none)(hz:IsZ s.heap (N+4) (N+2) (N+3) .none (.bool false))(hS:s.heap.get? (N+5)=some {cls:=.type "list",data:=.seq #[]})
  (key:∀h c₁,(∀b o,b≠N+5->s.heap.get? b=some o->h.get? b=some o)->h.get? (N+5)=some {cls:=.type "list",data:=.seq #[] c₁}->codeAny (model prog w) A (.builtin "list.extend.loop" ⟨[.ref (N+5),.ref (N+4),.none],[]⟩) R {s with heap:=h}):
  wpAny (model prog w) A.in1 (Builtin.«list.__init__» ⟨[.ref (N+5),.ref (N+4)],[]⟩)
   (λfin s'=>match fin with| .done f=>R (.ok f) s'| .again c'=>c'.quiet=true/\codeAny (model prog w) A c' R s') (λe s'=>R (.error e) s') s:=by
 show wpAny _ _ (do let old<-Builtin.List.listItems (.ref (N+5));Builtin.List.listUpdate (.ref (N+5)) (λ_=> #[]);letGo old.toList.reverse;Builtin.List.listExtendWith (.ref (N+5)) (.ref (N+4)) .none) _ _ s;refine bZ ?_;unfold Builtin.List.listItems;refine bZ (wpAny_seqItems hS rfl (pZ ?_));show wpAny _ _ (updateSeq (N+5) (λ_=> #[])>>=λ_=>letGo (#[]:Array Value).toList.reverse>>=λ_=>Builtin.List.listExtendWith (.ref (N+5)) (.ref (N+4)) .none) _ _ s;refine bZ (wpAny_updateSeq hS rfl ?_);have hS2:=get?_update_self (Obj.mapSeq (λ_=>(#[]:Array Value))) hS rfl;have oth:∀b o,b≠N+5->s.heap.get? b=some o->(s.heap.update (N+5) (Obj.mapSeq (λ_=>(#[]:Array Value)))).get? b=some o:=
  λb o hb e=>(get?_update_other _ _ (nn (Ne.symm hb))).trans e
 generalize s.heap.update (N+5) (Obj.mapSeq (λ_=>(#[]:Array Value)))=h2 at hS2 oth⊢;refine bZ (wpAny_letGo ?_);have hz1:=oth _ _ (by omega) hz;have ty:Shared.TypeIs {s with heap:=h2} (.ref (N+4)) "zip":=⟨_,hz1,rfl⟩;unfold Builtin.List.listExtendWith;refine bZ (wpAny_typeOf ty ?_);have e1:Builtin.List.listSameRef (.ref (N+5)) (.ref (N+4))=false:=by simp[Builtin.List.listSameRef]
 have e2:(Value.type "zip"==Value.type "list")=false:=by decide
 have e3:(Value.type "zip"==Value.type "tuple")=false:=by decide
 simp only[e1,e2,e3,Bool.or_false,Bool.false_eq_true,if_false];refine bZ (wpAny_pyIter_zip hz1 ?_);refine bZ (wpAny_holding ?_);unfold Builtin.List.listLengthHint;refine bZ (wpAny_specialOf ty F.nolen_zip ?_);show wpAny _ A.in1 (specialOf (Value.ref (N+4)) (Str.ofString "__length_hint__")>>=_) _ _ _;refine bZ (wpAny_specialOf ty F.nohint_zip ?_);refine pZ ?_;show wpAny _ A.in1 (rule "list.extend.makes-room">>=λ_=>Builtin.List.listTouch (.ref (N+5))>>=λ_=>
  again (.builtin "list.extend.loop" ⟨[.ref (N+5),.ref (N+4),.none],[]⟩)) _ _ _
 refine bZ (wpAny_rule ?_);refine bZ ?_;show wpAny _ A.in1 (updateSeq (N+5) (·.push .none)>>=λ_=>updateSeq (N+5) (·.pop)) _ _ _;refine bZ (wpAny_updateSeq hS2 rfl ?_);have g2:=get?_update_self (Obj.mapSeq (·.push Value.none)) hS2 rfl;refine wpAny_updateSeq g2 rfl ?_;have g3:=get?_update_self (Obj.mapSeq (·.pop)) g2 rfl;exact pZ ⟨plainId_quiet F.plain_extend_loop _,key _ _ (λb o hb e=>(get?_update_other _ _ (nn (Ne.symm hb))).trans ((get?_update_other _ _ (nn (Ne.symm hb))).trans (oth b o hb e))) g3⟩
variable{E:Value->Shared->Prop}{Q:Value->Shared->Prop}
theorem IZ(hh:A.handled=none)(hz:IsZ s.heap (N+4) (N+2) (N+3) .none (.bool false))(hsz:s.heap.objs.size=N+5)
  (key:∀h c₁,(∀b o,s.heap.get? b=some o->h.get? b=some o)->h.get? (N+5)=some {cls:=.type "list",data:=.seq #[] c₁}->
   codeAny (model prog w) A.in1 (.builtin "list.extend.loop" ⟨[.ref (N+5),.ref (N+4),.none],[]⟩) (wants (λv s'=>v=.none/\Q (.ref (N+5)) s') E) {s with heap:=h}):
  wpAny (model prog w) A (call (.type "list") [.ref (N+4)]) Q E s:=by
 refine callType_codes (Q₁:=λobj s₁=>obj=.ref s.heap.objs.size/\s₁={s with heap:=s.heap.push {cls:=.type "list",data:=.seq #[]}}) F.called_list (F.typeCall_list_1 _) F.entry_list_init
  (code_list_new _ ⟨rfl,rfl⟩) λobj s₁ h₁=> ?_
 obtain⟨rfl,rfl⟩:=h₁;have hS:(s.heap.push {cls:=.type "list",data:=.seq #[]}).get? s.heap.objs.size=some {cls:=.type "list",data:=.seq #[]}:=get?_push_size _ rfl;have kp:∀b o,s.heap.get? b=some o->(s.heap.push {cls:=.type "list",data:=.seq #[]}).get? b=some o:=λb o e=>gZ _ e;have nq:∀b o,s.heap.get? b=some o->b≠N+5:=λb o e=>ne_of_lt (hsz▸lt_size e);rw[hsz]at hS⊢;refine⟨⟨_,hS,rfl⟩,F.args_list_init_2 _ _,XQ (A:=A.in1) hh (kp _ _ hz) hS λh c₁ hk hl=> ?_⟩;have:=key h c₁ (λb o e=>hk b o (nq b o e) (kp b o e)) hl;exact this
end
end ZT
end PySem
namespace _L
open PySem PySem.Spec PyProof.Rows
section
variable{X:Cx}{K:FZ}
end
end _L
namespace PySem
open Sem(wp)
open PyProof.Rows
namespace F
end F
section
variable{prog:Program}{w:World}{A:Around}{E:Value->Shared->Prop}{s:Shared}
end
end PySem
namespace _L
open PySem PySem.Spec PyProof.Rows
section
variable{X:Cx}{K:FZ}
end
end _L
namespace PySem
open Sem(wp)
open PyProof.Rows
namespace ZT
section
variable{prog:Program}{w:World}{A:Around}{E:Value->Shared->Prop}{s:Shared}
end
end ZT
end PySem
namespace _L
open PySem PySem.Spec PyProof.Rows
section
variable{X:Cx}{K:FZ}{elts:List Expr}{kt:Nat}{pt:Pos}
end
end _L
namespace PySem
open Sem(wp)
open PyProof.Rows
namespace SeqAt
end SeqAt
end PySem
namespace _L
open PySem PySem.Spec PyProof.Rows
section
variable{X:Cx}{K:FZ}
end
end _L
namespace PySem
open Sem(wp)
open PyProof.Rows
namespace ZT
structure Zg(t1 t2:Bool)(N l1 l2:Nat)(h:Heap)(i:Nat):Prop where
 z:(i=0/\IsZ h (N+4) (N+2) (N+3) .none (.bool false))\/(∃(T:Addr) (b:Bool),IsZ h (N+4) (N+2) (N+3) (rawInt T) (.bool b)/\(∃o,h.get? T=some o)/\N+5<T)
 ti:IsPair h (N+2) (.ref N) (.ref (N+1))
 to:∃a b,IsPair h (N+3) a b
 i1:IsIt t1 h N l1 i
 i2:IsIt t2 h (N+1) l2 i
theorem Zg.at{t1 t2:Bool}{N l1 l2:Nat}{h h':Heap}{i:Nat}(x:Zg t1 t2 N l1 l2 h i)(k:∀c o,c≠N+5->h.get? c=some o->h'.get? c=some o):Zg t1 t2 N l1 l2 h' i:=by
 obtain⟨z,ti,⟨a,b,to⟩,i1,i2⟩:=x;refine⟨?_,k _ _ (by omega) ti,⟨a,b,k _ _ (by omega) to⟩,i1.at λo e=>k _ o (by omega) e,i2.at λo e=>k _ o (by omega) e⟩;rcases z with⟨rfl,z⟩|⟨T,b,z,⟨o,ho⟩,hT⟩
 ·exact .inl ⟨rfl,k _ _ (by omega) z⟩
 ·exact .inr ⟨T,b,k _ _ (by omega) z,⟨o,k _ _ (by omega) ho⟩,hT⟩
theorem next_g{prog:Program}{w:World}{A:Around}{E:Value->Shared->Prop}{s:Shared}{t1 t2:Bool}{N l1 l2 i:Nat}{xs ys:Array Value}{x y:Value}{Q:Option Value->Shared->Prop}(a1:l1<N)(a2:l2<N)(hs:N+5<s.heap.objs.size)
  (hZ:Zg t1 t2 N l1 l2 s.heap i)(hl1:IsSq t1 s.heap l1 xs)(hl2:IsSq t2 s.heap l2 ys)(hx:xs[i]? =some x)(hy:ys[i]? =some y)
  (hQ:∀h',Zg t1 t2 N l1 l2 h' (i+1)->IsPair h' s.heap.objs.size x y->h'.objs.size=s.heap.objs.size+1->(∀c o,c<N\/N+5<=c->s.heap.get? c=some o->h'.get? c=some o)->Q (some (.ref s.heap.objs.size)) {s with heap:=h'}):
  wpAny (model prog w) A (pyNext (.ref (N+4))) Q E s:=by
 have D:ZipApart (N+4) (N+2) (N+3) N (N+1) l1 l2:=zipApart_new a1 a2;obtain⟨hz,hti,⟨a,b,hto⟩,h1,h2⟩:=hZ;rcases hz with⟨rfl,hz⟩|⟨T,b',hz,hT,hTN⟩
 ·refine LF D hz hti hto h1 h2 hl1 hl2 hx hy λh' b' c1 c2 c3 c4 c5 ck c6=>hQ h' ⟨.inr ⟨_,b',c1,⟨_,c4⟩,hs⟩,ck _ _ (nn (by omega)) (nn (by omega)) (nn (by omega)) (nn (by omega)) hti,⟨_,_,c6⟩,c2,c3⟩ c4 c5 λc o hc e=>ck c o (nn (by omega)) (nn (by omega)) (nn (by omega)) (nn (by omega)) e
 ·refine NO D hz hT hti h1 h2 hl1 hl2 hx hy λh' c1 c2 c3 c4 c5 ck=>hQ h' ⟨.inr ⟨T,true,c1, ?_,hTN⟩,ck _ _ (nn (by omega)) (nn (by omega)) (nn (by omega)) hti,⟨a,b,ck _ _ (nn (by omega)) (nn (by omega)) (nn (by omega)) hto⟩,c2,c3⟩ c4 c5 λc o hc e=>ck c o (nn (by omega)) (nn (by omega)) (nn (by omega)) e;obtain⟨o,ho⟩:=hT;exact⟨o,ck _ _ (nn (by omega)) (nn (by omega)) (nn (by omega)) ho⟩
section
variable{prog:Program}{w:World}{A:Around}{R:Result->Shared->Prop}{s:Shared}
theorem VO{t1 t2:Bool}{N l1 l2:Nat}{h0:Heap}{xs ys:Array Value}{res:Value}(hh:A.handled=none)(a1:l1<N)(a2:l2<N)(b1:IsSq t1 h0 l1 xs)(b2:IsSq t2 h0 l2 ys)(hn:min xs.size ys.size<=sizeLine):
  ∀(k i:Nat) (h:Heap) (acc:Array Value) (c:Nat),min xs.size ys.size - i=k->i<=min xs.size ys.size->Had N h0 h xs ys i acc c->Zg t1 t2 N l1 l2 h i->
   (∀h' acc' c',Had N h0 h' xs ys (min xs.size ys.size) acc' c'->R (.ok (.ret res)) {s with heap:=h'})->
   codeAny (model prog w) A (.builtin "list.extend.loop" ⟨[.ref (N+5),.ref (N+4),res],[]⟩) R {s with heap:=h}:=by
 have D:ZipApart (N+4) (N+2) (N+3) N (N+1) l1 l2:=zipApart_new a1 a2;intro k;induction k with
 |zero=>
  intro i h acc c hk hi hH hZ hR;have hin:i=min xs.size ys.size:=by omega
  subst hin;refine codeAny_builtin F.entry_extend_loop ?_;rw[Around.under_plainId F.plain_extend_loop _];show wpAny _ A.in1 (pyNext (.ref (N+4))>>=_) _ _ _;have hend:xs[min xs.size ys.size]? =none\/ys[min xs.size ys.size]? =none:=by
   rcases Nat.le_total xs.size ys.size with h|h
   ·exact .inl (by rw[min_eq_left h];exact Array.getElem?_eq_none (Nat.le_refl _))
   ·exact .inr (by rw[min_eq_right h];exact Array.getElem?_eq_none (Nat.le_refl _))
  have fin:∀h',(∀a o,a<N\/N+5<=a->h.get? a=some o->h'.get? a=some o)->R (.ok (.ret res)) {s with heap:=h'}:=λh' keep=>by
   refine hR h' acc c ⟨λa o ha e=>keep a o (.inl ha) (hH.old a o ha e),keep _ _ (.inr (Nat.le_refl _)) hH.lst,hH.len,λj x y hj hx hy=> ?_⟩;obtain⟨p,e1,e2,e3⟩:=hH.prs j x y hj hx hy;exact⟨p,e1,keep _ _ (.inr (by omega)) e2,e3⟩
  have B1:=b1.at λo e=>hH.old _ o a1 e;have B2:=b2.at λo e=>hH.old _ o a2 e;obtain⟨z,ti,⟨a,b,to⟩,i1,i2⟩:=hZ;rcases z with⟨_,hz⟩|⟨T,b',hz,hT,_⟩
  ·exact bZ (pyNext_fend (s:={s with heap:=h}) hh D hz ti to i1 i2 B1 B2 hend λh' hk'=>pZ (fin h' λc o hc e=>hk' c o (nn (by omega)) (nn (by omega)) (nn (by omega)) (nn (by omega)) e))
  ·exact bZ (pyNext_end (s:={s with heap:=h}) hh D hz hT ti i1 i2 B1 B2 hend λh' hk'=>pZ (fin h' λc o hc e=>hk' c o (nn (by omega)) (nn (by omega)) (nn (by omega)) e))
 |succ k ih=>
  intro i h acc c hk hi hH hZ hR;have hlt:i<min xs.size ys.size:=by omega
  have hx:xs[i]? =some (xs[i]'(by omega)):=Array.getElem?_eq_getElem (by omega);have hy:ys[i]? =some (ys[i]'(by omega)):=Array.getElem?_eq_getElem (by omega);have hs:N+5<h.objs.size:=lt_size hH.lst;refine codeAny_builtin F.entry_extend_loop ?_;rw[Around.under_plainId F.plain_extend_loop _];show wpAny _ A.in1 (pyNext (.ref (N+4))>>=_) _ _ _;refine bZ (next_g (s:={s with heap:=h}) a1 a2 hs hZ (b1.at λo e=>hH.old _ o a1 e) (b2.at λo e=>hH.old _ o a2 e) hx hy λh' hZ' hp' hs' hk'=> ?_);have hS':=hk' _ _ (.inr (Nat.le_refl _)) hH.lst;show wpAny _ A.in1 (updateSeq (N+5) (·.push (.ref h.objs.size))>>=_) _ _ _;refine bZ ?_;have up:∀a o,a≠N+5->h'.get? a=some o->(h'.update (N+5) (Obj.mapSeq (·.push (.ref h.objs.size)))).get? a=some o:=λa o ha e=>(get?_update_other _ _ (nn (Ne.symm ha))).trans e;refine wpAny_updateSeq hS' rfl (pZ ⟨plainId_quiet F.plain_extend_loop _,ih (i+1) (h'.update (N+5) (Obj.mapSeq (·.push (.ref h.objs.size)))) (acc.push (.ref h.objs.size)) _ (by omega) hlt ⟨λa o ha e=> ?_,get?_update_self _ hS' rfl,by rw[Array.size_push,hH.len],λj x y hj hxj hyj=> ?_⟩ (hZ'.at up) hR⟩)
   (by rw[hH.len];omega) (by show(acc.push _).size<=sizeLine+1;rw[Array.size_push,hH.len];omega)
  ·exact up _ _ (by omega) (hk' a o (.inl ha) (hH.old a o ha e))
  ·by_cases e:j=i
   ·subst e;rw[hx]at hxj;rw[hy]at hyj;cases hxj;cases hyj;exact⟨h.objs.size,by rw[Array.getElem?_push,if_pos hH.len.symm],up _ _ (by omega) hp',hs⟩
   ·obtain⟨p,e1,e2,e3⟩:=hH.prs j x y (by omega) hxj hyj;exact⟨p,by rw[Array.getElem?_push,if_neg (by rw[hH.len];exact e)];exact e1,up _ _ (by omega) (hk' _ _ (.inr (by omega)) e2),e3⟩
variable{E:Value->Shared->Prop}{t1 t2:Bool}{N l1 l2:Nat}{xs ys:Array Value}{Q:Value->Shared->Prop}
theorem list_g(hh:A.handled=none)(a1:l1<N)(a2:l2<N)(b1:IsSq t1 s.heap l1 xs)(b2:IsSq t2 s.heap l2 ys)(hn:min xs.size ys.size<=sizeLine)(hZ:Zg t1 t2 N l1 l2 s.heap 0)(hz:IsZ s.heap (N+4) (N+2) (N+3) .none (.bool false))(hsz:s.heap.objs.size=N+5)
  (hQ:∀h' acc c,Had N s.heap h' xs ys (min xs.size ys.size) acc c->Q (.ref (N+5)) {s with heap:=h'}):
  wpAny (model prog w) A (call (.type "list") [.ref (N+4)]) Q E s:=
 IZ hh hz hsz λh c₁ kk hS=>VO (A:=A.in1) (s:=s) (h0:=s.heap) hh a1 a2 b1 b2 hn _ 0 h #[] c₁ rfl (zero_le _) ⟨λa o _ e=>kk a o e,hS,rfl,(λj x y hj=>absurd hj (Nat.not_lt_zero _))⟩ (hZ.at λc o _ e=>kk c o e) λh' acc c hH=>⟨rfl,hQ h' acc c hH⟩
theorem ST{Q:List Value->Shared->Prop}(hh:A.handled=none)(a1:l1<N)(a2:l2<N)(b1:IsSq t1 s.heap l1 xs)(b2:IsSq t2 s.heap l2 ys)(hn:min xs.size ys.size<=sizeLine)(hZ:Zg t1 t2 N l1 l2 s.heap 0)(hz:IsZ s.heap (N+4) (N+2) (N+3) .none (.bool false))(hsz:s.heap.objs.size=N+5)
  (hQ:∀h' acc c,Had N s.heap h' xs ys (min xs.size ys.size) acc c->Q acc.toList {s with heap:=h'}):
  wpAny (model prog w) A (collect (.ref (N+4))) Q E s:=by
 unfold collect;refine bZ (wpAny_runValue (codeAny_builtin F.entry_proto_collect ?_));rw[Around.under_plainId F.plain_proto_collect _];show wpAny _ A.in1 (newList []>>=λl=>again (.builtin "list.__iadd__" ⟨[l,.ref (N+4)],[]⟩)) _ _ _;refine bZ (wpAny_newObj_type ?_);show wpAny _ A.in1 (again (.builtin "list.__iadd__" ⟨[.ref s.heap.objs.size,.ref (N+4)],[]⟩)) _ _ _;rw[hsz];refine pZ ⟨plainId_quiet F.plain_list_iadd _,codeAny_builtin F.entry_list_iadd ?_⟩;rw[Around.under_plainId F.plain_list_iadd _];have hz1:IsZ (s.heap.push {cls:=.type "list",data:=.seq ([]:List Value).toArray}) (N+4) (N+2) (N+3) .none (.bool false):=gZ _ hz;have ty:Shared.TypeIs {s with heap:=s.heap.push {cls:=.type "list",data:=.seq ([]:List Value).toArray}} (.ref (N+4)) "zip":=⟨_,hz1,rfl⟩;show wpAny _ A.in1 (Builtin.List.listExtendWith (.ref (N+5)) (.ref (N+4)) (.ref (N+5))) _ _ _;unfold Builtin.List.listExtendWith;refine bZ (wpAny_typeOf ty ?_);have e1:Builtin.List.listSameRef (.ref (N+5)) (.ref (N+4))=false:=by simp[Builtin.List.listSameRef]
 have e2:(Value.type "zip"==Value.type "list")=false:=by decide
 have e3:(Value.type "zip"==Value.type "tuple")=false:=by decide
 simp only[e1,e2,e3,Bool.or_false,Bool.false_eq_true,if_false];refine bZ (wpAny_pyIter_zip hz1 ?_);refine bZ (wpAny_holding ?_);unfold Builtin.List.listLengthHint;refine bZ (wpAny_specialOf ty F.nolen_zip ?_);show wpAny _ A.in1 (specialOf (Value.ref (N+4)) (Str.ofString "__length_hint__")>>=_) _ _ _;refine bZ (wpAny_specialOf ty F.nohint_zip ?_);refine pZ ?_;show wpAny _ A.in1 (rule "list.extend.makes-room">>=λ_=>Builtin.List.listTouch (.ref (N+5))>>=λ_=>
  again (.builtin "list.extend.loop" ⟨[.ref (N+5),.ref (N+4),.ref (N+5)],[]⟩)) _ _ _
 refine bZ (wpAny_rule ?_);have g1:(s.heap.push {cls:=.type "list",data:=.seq ([]:List Value).toArray}).get? (N+5)=some {cls:=.type "list",data:=.seq ([]:List Value).toArray}:=by
  rw[<-hsz];exact get?_push_size _ rfl
 refine bZ ?_;show wpAny _ A.in1 (updateSeq (N+5) (·.push .none)>>=λ_=>updateSeq (N+5) (·.pop)) _ _ _;refine bZ (wpAny_updateSeq g1 rfl ?_);have g2:=get?_update_self (Obj.mapSeq (·.push Value.none)) g1 rfl;refine wpAny_updateSeq g2 rfl ?_;have g3:=get?_update_self (Obj.mapSeq (·.pop)) g2 rfl;have oth:∀b o,b≠N+5->s.heap.get? b=some o->
   (((s.heap.push {cls:=.type "list",data:=.seq ([]:List Value).toArray}).update (N+5) (Obj.mapSeq (·.push Value.none))).update (N+5) (Obj.mapSeq (·.pop))).get? b=some o:=
  λb o hb e=>(get?_update_other _ _ (nn (Ne.symm hb))).trans ((get?_update_other _ _ (nn (Ne.symm hb))).trans (gZ _ e))
 refine pZ ⟨plainId_quiet F.plain_extend_loop _,VO (s:=s) (h0:=s.heap) hh a1 a2 b1 b2 hn _ 0 _ #[] _ rfl (zero_le _) ⟨λa o ha e=>oth a o (by omega) e,g3,rfl,(λj x y hj=>absurd hj (Nat.not_lt_zero _))⟩ (hZ.at oth) λh' acc' c' hH=> ?_⟩;show wpAny _ A (load (N+5)>>=_) _ _ _;refine bZ (wpAny_load hH.lst ?_);exact pZ (hQ h' acc' c' hH)
theorem LN(hh:A.handled=none)(a1:l1<N)(a2:l2<N)(b1:IsSq t1 s.heap l1 xs)(b2:IsSq t2 s.heap l2 ys)(hn:min xs.size ys.size<=sizeLine)(hZ:Zg t1 t2 N l1 l2 s.heap 0)(hz:IsZ s.heap (N+4) (N+2) (N+3) .none (.bool false))(hsz:s.heap.objs.size=N+5)
  (hQ:∀h' acc c,Had N s.heap h' xs ys (min xs.size ys.size) acc c->Q (.ref h'.objs.size) {s with heap:=h'.push {cls:=.type "tuple",data:=.seq acc}}):
  codeAny (model prog w) A (.call (.builtin "tuple.__new__") ⟨[.type "tuple",.ref (N+4)],[]⟩) (wants (λobj s₁=>s₁.TypeIs obj "tuple"/\Q obj s₁) E) s:=by
 have ty:Shared.TypeIs s (.ref (N+4)) "zip":=⟨_,hz,rfl⟩;refine codeAny_of_tree ?_;show wpAny _ A.in1 (do checkBuiltinCall "tuple.__new__" ⟨[.type "tuple",.ref (N+4)],[]⟩;again (.builtin "tuple.__new__" ⟨[.type "tuple",.ref (N+4)],[]⟩)) _ _ _;refine bZ (wpAny_of_eq (F.newCall_tuple_1 _) (pZ ⟨plainId_quiet F.plain_tuple_new _,codeAny_builtin F.entry_tuple_new ?_⟩));rw[Around.under_plainId F.plain_tuple_new _];have hsub:=sub_tuple_self;have hinit:=init_tuple_lookup;have hmh:=madeHere_tuple;have hh1:A.in1.handled=none:=hh
 wp_walk using wpAny_typeOf ty,ST hh1 a1 a2 b1 b2 hn hZ hz hsz
 intro h' acc c hH;show wpAny _ _ (Builtin.Tuple.tupleExact acc.toList.toArray>>=λv=>ret v) _ _ _;unfold Builtin.Tuple.tupleExact;refine bZ (wpAny_newObj_type ?_ (by show acc.toList.toArray.size<=sizeLine;simp only[Array.toArray_toList];rw[hH.len];exact hn));refine pZ ?_;have e:acc.toList.toArray=acc:=by simp
 rw[e];exact⟨⟨_,get?_push_size _ rfl,rfl⟩,hQ h' acc c hH⟩
theorem tuple_g(hh:A.handled=none)(a1:l1<N)(a2:l2<N)(b1:IsSq t1 s.heap l1 xs)(b2:IsSq t2 s.heap l2 ys)(hn:min xs.size ys.size<=sizeLine)(hZ:Zg t1 t2 N l1 l2 s.heap 0)(hz:IsZ s.heap (N+4) (N+2) (N+3) .none (.bool false))(hsz:s.heap.objs.size=N+5)
  (hQ:∀h' acc c,Had N s.heap h' xs ys (min xs.size ys.size) acc c->Q (.ref h'.objs.size) {s with heap:=h'.push {cls:=.type "tuple",data:=.seq acc}}):
  wpAny (model prog w) A (call (.type "tuple") [.ref (N+4)]) Q E s:=by
 refine callType_codes (Q₁:=λobj s₁=>s₁.TypeIs obj "tuple"/\Q obj s₁) F.called_tuple (F.typeCall_tuple_1 _) F.entry_object_init (LN (Q:=Q) hh a1 a2 b1 b2 hn hZ hz hsz hQ) λobj s₁ h₁=> ?_;exact⟨h₁.1,F.args_object_init_2 obj _,object_init_meets F.called_tuple.init.lookup F.called_tuple.made (by decide) prog w A.in1 _ s₁ ⟨h₁.1,rfl,h₁.2⟩⟩
end
end ZT
end PySem
namespace _L
open PySem PySem.Spec PyProof.Rows
theorem RelV.same{x y:V}{u:Value}(h:RelV x u)(g:RelV y u):x=y:=by
 cases x<;>cases y<;>simp only[RelV]at h g<;>first
  |rfl
  |(obtain⟨t,h⟩:=h;obtain⟨t',g⟩:=g;rw[h]at g;cases g;done)
  |(obtain⟨t,h⟩:=h;obtain⟨t',g⟩:=g;rw[h]at g;cases g;rfl)
  |(obtain⟨t,h⟩:=h;rw[h]at g;cases g;done)
  |(obtain⟨t,g⟩:=g;rw[h]at g;cases g;done)
  |(rw[h]at g;cases g;done)
  |(rw[h]at g;cases g;rfl)
structure Prs (H:Hp) (xs ys ps:List V):Prop where
 len:ps.length=min xs.length ys.length
 at_:∀(j:Nat) (x y:V),xs[j]? =some x->ys[j]? =some y->∃q:Addr,ps[j]? =some (.ref q)/\H q=some (.tup [x,y])
theorem Vals.get_{xs:List V}{us:List Value}{i:Nat}{x:V}(h:Vals xs us)(e:xs[i]? =some x):∃u,us.toArray[i]? =some u/\RelV x u:=by
 obtain⟨u,h1,h2⟩:=h.get e;exact⟨u,by simpa using h1,h2⟩
section
variable{X:Cx}{K:FZ}
theorem KJ{pins:List (Addr×Obj)}{σ:St}{H:Hp}{s:Shared}{h2:Heap}{N:Nat}{xs ys:List V}{its1 its2:List Value}{acc:Array Value}{r:Addr}{o:List V->HO}{n:Nat}(I:Inv X pins σ H s)(v1:Vals xs its1)(v2:Vals ys its2)
  (hn:n=min its1.toArray.size its2.toArray.size)(hN:s.heap.objs.size<=N)(kp:∀b u,s.heap.get? b=some u->h2.get? b=some u)(hr:s.heap.objs.size<=r)(len:acc.size=n)
  (prs:∀j x y,j<n->its1.toArray[j]? =some x->its2.toArray[j]? =some y->∃p,acc[j]? =some (.ref p)/\IsPair h2 p x y/\N<p/\p≠r)
  (ok:∀H' ps,Vals ps acc.toList->ObjOk X.prog X.w H' h2 r (o ps)):
  ∃H' ps,Inv X pins σ H' {s with heap:=h2}/\Same H H'/\H r=none/\H' r=some (o ps)/\Prs H' xs ys ps:=by
 have l1:=v1.length;have l2:=v2.length;have hn':n=min xs.length ys.length:=by rw[hn,l1,l2];simp
 have key:∀j,j<n->∃x y u v p,xs[j]? =some x/\ys[j]? =some y/\RelV x u/\RelV y v/\acc[j]? =some (.ref p)/\IsPair h2 p u v/\N<p/\p≠r:=λj hj=>by
  have h1:xs[j]? =some (xs[j]'(by omega)):=List.getElem?_eq_getElem (by omega);have h2:ys[j]? =some (ys[j]'(by omega)):=List.getElem?_eq_getElem (by omega);obtain⟨u,e1,r1⟩:=v1.get_ h1;obtain⟨v,e2,r2⟩:=v2.get_ h2;obtain⟨p,e3,e4,e5,e6⟩:=prs j u v hj e1 e2;exact⟨_,_,u,v,p,h1,h2,r1,r2,e3,e4,e5,e6⟩
 let ps:List V:=acc.toList.map λv=>match v with| .ref a=>V.ref a|_=>V.non
 have hps:∀(j:Nat) (p:Addr),acc[j]? =some (.ref p)->ps[j]? =some (.ref p):=λj p e=>by
  show(acc.toList.map _)[j]? =_;rw[getElem?_map,Array.getElem?_toList,e];rfl
 have hv:Vals ps acc.toList:=by
  have all:∀v∈acc.toList,∃p:Addr,v=.ref p:=λv hv=>by
   obtain⟨j,hj⟩:=mem_iff_getElem?.mp hv;rw[Array.getElem?_toList]at hj;have hlt:j<n:=by
    rw[<-len];exact(Array.getElem?_eq_some_iff.mp hj).1
   obtain⟨_,_,_,_,p,_,_,_,_,e,_⟩:=key j hlt;rw[hj]at e;exact⟨p,Option.some.inj e⟩
  show Vals (acc.toList.map _) acc.toList;generalize acc.toList=l at all;clear ok prs key hps ps;induction l with
  |nil=>exact .nil
  |cons v l ih=>
   obtain⟨p,rfl⟩:=all v (mem_cons_self ..);exact .cons rfl (ih λw hw=>all w (mem_cons_of_mem _ hw))
 classical
 let isP:Addr->Nat->Prop:=λb j=>j<n/\acc[j]? =some (.ref b);let H':Hp:=λb=>if b=r then some (o ps)else if h:∃j,isP b j then(match xs[Classical.choose h]?,ys[Classical.choose h]? with|some x,some y=>some (.tup [x,y])|_,_=>none)else H b
 have big:∀ {b j},isP b j->N<b/\b≠r:=λ{b j} hb=>by
  obtain⟨_,_,_,_,p,_,_,_,_,e,_,e5,e6⟩:=key j hb.1;rw[hb.2]at e;cases e;exact⟨e5,e6⟩
 have hH:∀b,b≠r->(∃j,isP b j)->∃x y u v,H' b=some (.tup [x,y])/\RelV x u/\RelV y v/\IsPair h2 b u v:=λb hb h=>by
  have hc:=Classical.choose_spec h;obtain⟨x,y,u,v,p,h1,h2,r1,r2,e,e4,_⟩:=key _ hc.1;rw[hc.2]at e;cases e;refine⟨x,y,u,v, ?_,r1,r2,e4⟩;show(if b=r then _ else if h:∃j,isP b j then _ else _)=_;rw[if_neg hb,dif_pos h,h1,h2]
 have hnone:∀b,s.heap.objs.size<=b->H b=none:=λb hb=>I.hok.fresh hb;have hr0:H r=none:=hnone r hr;have old:∀b,b≠r->¬(∃j,isP b j)->H' b=H b:=λb h1 h2=>by
  show(if b=r then _ else if h:∃j,isP b j then _ else _)=_;rw[if_neg h1,dif_neg h2]
 have hrr:H' r=some (o ps):=if_pos rfl;have sm:Same H H':=λb u e=>by
  rw[old b (C1 e hr0) λ⟨j,hj⟩=> ?_]
  ·exact e
  ·rw[hnone b (Nat.le_trans hN (Nat.le_of_lt (big hj).1))]at e;cases e
 refine⟨H',ps,I.laidMany (t':=s.toks) kp sm (λb hb e=> ?_) (λb u hb e=> ?_),sm,hr0,hrr,by rw[<-hn',<-len];simp[ps],λj x y hx hy=> ?_⟩
 ·rw[old b (ne_of_lt (lt_of_lt_of_le hb hr)) λ⟨j,hj⟩=>absurd (Nat.lt_trans hb (lt_of_le_of_lt hN (big hj).1)) (lt_irrefl _)];exact e
 ·by_cases c:b=r
  ·subst c;rw[hrr]at e;cases e;exact ok _ _ hv
  ·by_cases c2:∃j,isP b j
   ·obtain⟨x,y,p,q,e1,r1,r2,e2⟩:=hH b c c2;rw[e1]at e;cases e;exact⟨(by show 2<=sizeLine;decide),[p,q],.cons r1 (.cons r2 .nil),⟨_,e2,rfl,_,rfl⟩⟩
   ·rw[old b c c2,hb]at e;cases e
 ·have hj:j<n:=by
   rw[hn'];have a1:=(List.getElem?_eq_some_iff.mp hx).1;have a2:=(List.getElem?_eq_some_iff.mp hy).1;omega
  obtain⟨x',y',u,v,p,h1,h2,r1,r2,e3,e4,e5,e6⟩:=key j hj;rw[hx]at h1;cases h1;rw[hy]at h2;cases h2;refine⟨p,hps _ _ e3, ?_⟩;obtain⟨x2,y2,u2,v2,e7,s1,s2,e8⟩:=hH p e6 ⟨j,hj,e3⟩;have e9:=e4.symm.trans e8;cases e9;rw[e7,RelV.same r1 s1,RelV.same r2 s2]
noncomputable def aQZ(K:FZ)(o:List V->HO)(ta:TA):TE:=fun σ H Q=>ta σ H λvs H1=>∃a b xs ys,vs=[.ref a,.ref b]/\(SqT K H1 a xs\/SqL K H1 a xs)/\(SqT K H1 b ys\/SqL K H1 b ys)/\min xs.length ys.length<=sizeLine/\
 ∀r H' ps,Same H1 H'->H1 r=none->H' r=some (o ps)->Prs H' xs ys ps->Q (.ref r) H'
theorem Inv.sq{pins:List (Addr×Obj)}{σ:St}{H:Hp}{s:Shared}{a:Addr}{xs:List V}(I:Inv X pins σ H s)(h:SqT X.K H a xs\/SqL X.K H a xs):∃(t:Bool) (its:List Value),Vals xs its/\ZT.IsSq t s.heap a its.toArray:=by
 rcases h with h|h
 ·obtain⟨its,rv,pl,_⟩:=I.tuple h;exact⟨true,its,rv,pl⟩
 ·obtain⟨its,rv,pl,_⟩:=I.list h;exact⟨false,its,rv,pl.isList⟩
theorem ND{xs ys:List V}{i1 i2:List Value}(v1:Vals xs i1)(v2:Vals ys i2):min i1.toArray.size i2.toArray.size=min xs.length ys.length:=by
 rw[v1.length,v2.length];simp
theorem asZ{h:Heap}{r:Addr}{acc:Array Value}(e:h.get? r=some {cls:=.type "tuple",data:=.seq acc}):h.IsTuple r acc.toList.toArray:=by
 rw[show acc.toList.toArray=acc by simp];exact⟨_,e,rfl,_,rfl⟩
theorem QJ{a b:Expr}{ta:TA}{p p' pos pos':Pos}(hg:Gl X "zip")(hm:X.mg "zip"=none)(hg':Gl X "tuple")(hm':X.mg "tuple"=none)(hc:X.calm=true)(ha:PA X [a,b] ta)(hK:X.K=K:=by rfl)
  (hs:starEach [a,b] X.env=[(false,eval a X.env),(false,eval b X.env)]:=by rfl)(hs2:starEach [b] X.env=[(false,eval b X.env)]:=by rfl)
  (hs':starEach [.Call (.Name "zip" p) [a,b] [] pos] X.env=[(false,eval (.Call (.Name "zip" p) [a,b] [] pos) X.env)]:=by rfl):
  PE X (.Call (.Name "tuple" p') [.Call (.Name "zip" p) [a,b] [] pos] [] pos') (aQZ K .tup ta):=by
 subst hK;intro pins s σ H Q I h;refine wpAny_Call_Name_kw (Q0 I hg' hm' M6 ?_);refine callWith_type1 ?_ hs' rfl;rw[hs'];refine Calls.spliced_cons (Call_ (Q0 I hg hm ME (callWith_type1 (thn (ha pos pins s σ H _ I h) λus s1 ⟨vs,H1,I1,r1,q1⟩=> ?_) (by rw[hs,hs2]) (by rw[hs2];rfl))));obtain⟨l1,l2,xs,ys,e,q1,q2,hz,q⟩:=q1;subst e;cases r1 with
 |cons r rr=>
  cases rr with
  |cons r' rr=>
   cases rr;cases r;cases r';obtain⟨t1,i1,v1,p1⟩:=I1.sq q1;obtain⟨t2,i2,v2,p2⟩:=I1.sq q2;have lt1:=Y7 p1;have lt2:=Y7 p2;have hm:=ND v1 v2;refine ZT.call_zipX p1 p2 λh' hz' ti to j1 j2 hsz hk=>Calls.spliced_nil ?_;refine ZT.tuple_g (s:={s1 with heap:=h'}) (I1.ok.hd hc) lt1 lt2 (p1.at λo e=>hk _ o e) (p2.at λo e=>hk _ o e) (by rw[hm];exact hz) ⟨.inl ⟨rfl,hz'⟩,ti,⟨_,_,to⟩,j1,j2⟩ hz' hsz λh2 acc c hH=> ?_;have kp:∀b o,s1.heap.get? b=some o->(h2.push {cls:=.type "tuple",data:=.seq acc}).get? b=some o:=λb o e=>gZ _ (hH.old b o (lt_size e) (hk b o e));have l5:s1.heap.objs.size+5<h2.objs.size:=lt_size hH.lst;obtain⟨H',ps,I',sm,hr0,hr,hp⟩:=KJ (o:=.tup) (N:=s1.heap.objs.size) (r:=h2.objs.size) (n:=min i1.toArray.size i2.toArray.size) I1 v1 v2 rfl (Nat.le_refl _) kp (by omega) hH.len
    (λj x y hj hx hy=>by
     obtain⟨p,e1,e2,e3⟩:=hH.prs j x y hj hx hy;exact⟨p,e1,gZ _ e2,by omega,ne_of_lt (lt_size e2)⟩)
    (λH' ps hv=>⟨by rw[hv.length,Array.length_toList,hH.len,hm];exact hz,acc.toList,hv,asZ (get?_push_size _ rfl)⟩)
   exact⟨.ref h2.objs.size,H',I',rfl,q _ _ _ sm hr0 hr hp⟩
theorem CA{a b:Expr}{ta:TA}{p p' pos pos':Pos}(hg:Gl X "zip")(hm:X.mg "zip"=none)(hg':Gl X "list")(hm':X.mg "list"=none)(hc:X.calm=true)(ha:PA X [a,b] ta)(hK:X.K=K:=by rfl)
  (hs:starEach [a,b] X.env=[(false,eval a X.env),(false,eval b X.env)]:=by rfl)(hs2:starEach [b] X.env=[(false,eval b X.env)]:=by rfl)
  (hs':starEach [.Call (.Name "zip" p) [a,b] [] pos] X.env=[(false,eval (.Call (.Name "zip" p) [a,b] [] pos) X.env)]:=by rfl):
  PE X (.Call (.Name "list" p') [.Call (.Name "zip" p) [a,b] [] pos] [] pos') (aQZ K .lst ta):=by
 subst hK;intro pins s σ H Q I h;refine wpAny_Call_Name_kw (Q0 I hg' hm' U4 ?_);refine callWith_type1 ?_ hs' rfl;rw[hs'];refine Calls.spliced_cons (Call_ (Q0 I hg hm ME (callWith_type1 (thn (ha pos pins s σ H _ I h) λus s1 ⟨vs,H1,I1,r1,q1⟩=> ?_) (by rw[hs,hs2]) (by rw[hs2];rfl))));obtain⟨l1,l2,xs,ys,e,q1,q2,hz,q⟩:=q1;subst e;cases r1 with
 |cons r rr=>
  cases rr with
  |cons r' rr=>
   cases rr;cases r;cases r';obtain⟨t1,i1,v1,p1⟩:=I1.sq q1;obtain⟨t2,i2,v2,p2⟩:=I1.sq q2;have lt1:=Y7 p1;have lt2:=Y7 p2;have hm:=ND v1 v2;refine ZT.call_zipX p1 p2 λh' hz' ti to j1 j2 hsz hk=>Calls.spliced_nil ?_;refine ZT.list_g (s:={s1 with heap:=h'}) (I1.ok.hd hc) lt1 lt2 (p1.at λo e=>hk _ o e) (p2.at λo e=>hk _ o e) (by rw[hm];exact hz) ⟨.inl ⟨rfl,hz'⟩,ti,⟨_,_,to⟩,j1,j2⟩ hz' hsz λh2 acc c hH=> ?_;obtain⟨H',ps,I',sm,hr0,hr,hp⟩:=KJ (o:=.lst) (N:=s1.heap.objs.size) (r:=s1.heap.objs.size+5) (n:=min i1.toArray.size i2.toArray.size) I1 v1 v2 rfl (Nat.le_refl _) (λb o e=>hH.old b o (lt_size e) (hk b o e)) (by omega) hH.len
    (λj x y hj hx hy=>by
     obtain⟨p,e1,e2,e3⟩:=hH.prs j x y hj hx hy;exact⟨p,e1,e2,by omega,Nat.ne_of_gt e3⟩)
    (λH' ps hv=>⟨by rw[hv.length,Array.length_toList,hH.len,hm];exact hz,acc.toList,c,hv,by rw[hH.lst]⟩)
   exact⟨.ref (s1.heap.objs.size+5),H',I',rfl,q _ _ _ sm hr0 hr hp⟩
end
noncomputable def AB(e:Nat->Bool)(xs ys:List V):Bool:=(List.range (min xs.length ys.length)).all e&&xs.length==ys.length
inductive EqB (K:FZ) (H:Hp):Nat->V->V->Bool->Prop
 |str {n x y}:EqB K H n (.str x) (.str y) (x==y)
 |tup {n a b xs ys e}:SqT K H a xs->SqT K H b ys->(∀(j:Nat) u v,xs[j]? =some u->ys[j]? =some v->EqB K H n u v (e j))->EqB K H (n+1) (.ref a) (.ref b) (AB e xs ys)
section
variable{X:Cx}{K:FZ}{pins:List (Addr×Obj)}{σ:St}{H:Hp}{s:Shared}
theorem UH{e:Nat->Bool}{xs:List V}(h:∀j,j<xs.length->e j=true):AB e xs xs=true:=by
 unfold AB;rw[min_self,Bool.and_eq_true,all_eq_true];exact⟨λj hj=>h j (mem_range.mp hj),by simp⟩
theorem EqB.self(I:Inv X pins σ H s):∀ {n:Nat} {x:V} {b:Bool},EqB X.K H n x x b->b=true:=by
 intro n;induction n with
 |zero=>intro x b h;cases h;simp
 |succ n ih=>
  intro x b h;cases h with
  |str=>simp
  | @tup _ a _ xs ys e ha hb he=>
   have:=I.tuple_inj ha hb;subst this;exact UH λj hj=>ih (he j _ _ (List.getElem?_eq_getElem hj) (List.getElem?_eq_getElem hj))
theorem XI(I:Inv X pins σ H s){A:Around}{a b:Addr}{xs ys:List V}{e:Nat->Bool}(hu:A.units<cLine)(ha:SqT X.K H a xs)(hb:SqT X.K H b ys)
  (he:∀(j:Nat) x y u v,xs[j]? =some x->ys[j]? =some y->RelV x u->RelV y v->SeqAt.EqAt A.in1 s u v (e j)):SeqAt.RcAt A s (.ref a) (.ref b) (AB e xs ys):=by
 obtain⟨its,r,pl,_⟩:=I.tuple ha;obtain⟨its2,r2,pl2,_⟩:=I.tuple hb;have h:=SeqAt.RcAt.tuples (A:=A) (s:=s) (e:=e) pl pl2 hu (λj h1 h2=>by
  obtain⟨x,hx,rx⟩:=EJ r h1;obtain⟨y,hy,ry⟩:=EJ r2 h2;exact he j x y _ _ hx hy rx ry)
 have e1:its.toArray.size=xs.length:=by rw[r.length];simp
 have e2:its2.toArray.size=ys.length:=by rw[r2.length];simp
 rw[e1,e2]at h;exact h
theorem XH(I:Inv X pins σ H s)(n:Nat):∀(A:Around) (x y:V) (u v:Value) (b:Bool),A.units+n<cLine->EqB X.K H n x y b->RelV x u->RelV y v->SeqAt.EqAt A s u v b:=by
 induction n with
 |zero=>
  intro A x y u v b _ h rx ry;cases h;obtain⟨t1,rfl⟩:=rx;obtain⟨t2,rfl⟩:=ry;exact SeqAt.EqAt.str_str _ _ _ _
 |succ n ih=>
  intro A x y u v b hu h rx ry;have h0:=h;cases h with
  |str=>
   obtain⟨t1,rfl⟩:=rx;obtain⟨t2,rfl⟩:=ry;exact SeqAt.EqAt.str_str _ _ _ _
  | @tup _ a c xs ys e ha hb he=>
   cases rx;cases ry;by_cases eq:a=c
   ·subst eq;rw[h0.self I];exact SeqAt.EqAt.same _
   ·have h1:A.units<cLine:=lt_of_le_of_lt (le_add_right _ _) hu;have h2:A.in1.units+n<cLine:=by
     show A.units+1+n<cLine;rw[Nat.add_assoc,Nat.add_comm 1 n];exact hu
    exact SeqAt.EqAt.of_refs eq (XI I h1 ha hb λj x y u v hx hy rx ry=>ih A.in1 x y u v _ h2 (he j x y hx hy) rx ry)
noncomputable def WH(K:FZ):R2:=λx y H Q=>∃a b xs ys n e,x=.ref a/\y=.ref b/\SqT K H a xs/\SqT K H b ys/\n<=50/\(∀(j:Nat) u v,xs[j]? =some u->ys[j]? =some v->EqB K H n u v (e j))/\Q (.bl (AB e xs ys)) H
theorem bTZ(hu:X.A.units+64<cLine):OpR X (compareOp .Eq) (WH X.K):=by
 intro pins s σ H x y v u Q I rx ry h;obtain⟨a,b,xs,ys,n,e,rfl,rfl,ha,hb,hn,hd,q⟩:=h;cases rx;cases ry;have h1:X.A.units<cLine:=lt_of_le_of_lt (le_add_right _ _) hu;have h2:X.A.in1.units+n<cLine:=by
  show X.A.units+1+n<cLine;exact lt_of_le_of_lt (by omega) hu
 exact XI I h1 ha hb (λj x y u v hx hy rx ry=>XH I n X.A.in1 x y u v _ h2 (hd j x y hx hy) rx ry) X.prog X.w X.xe _ ⟨.bl _,H,I,rfl,q⟩
theorem CO(hu:X.A.units+64<cLine)(hK:X.K=K:=by rfl):OpR X (compareOp .Eq) (WH K):=by subst hK;exact bTZ hu
noncomputable def WG(K:FZ):R2:=λx y H Q=>∃a b xs ys n e,x=.ref a/\y=.ref b/\SqL K H a xs/\SqL K H b ys/\n<=50/\(∀(j:Nat) u v,xs[j]? =some u->ys[j]? =some v->EqB K H n u v (e j))/\Q (.bl (AB e xs ys)) H
theorem apZ(hu:X.A.units+64<cLine):OpR X (compareOp .Eq) (WG X.K):=by
 intro pins s σ H x y v u Q I rx ry h;obtain⟨a,b,xs,ys,n,e,rfl,rfl,ha,hb,hn,hd,q⟩:=h;cases rx;cases ry;have h1:X.A.units<cLine:=lt_of_le_of_lt (le_add_right _ _) hu;have h2:X.A.in1.units+n<cLine:=by
  show X.A.units+1+n<cLine;exact lt_of_le_of_lt (by omega) hu
 obtain⟨its,r,pl,_⟩:=I.list ha;obtain⟨its2,r2,pl2,_⟩:=I.list hb;have e1:its.toArray.size=xs.length:=by rw[r.length];simp
 have e2:its2.toArray.size=ys.length:=by rw[r2.length];simp
 by_cases c:xs.length=ys.length
 ·have h:=SeqAt.RcAt.lists (A:=X.A) (s:=s) (e:=e) pl.isList pl2.isList (by rw[e1,e2];exact c) h1 (λj h1' h2'=>by
   obtain⟨x,hx,rx⟩:=EJ r h1';obtain⟨y,hy,ry⟩:=EJ r2 h2';exact XH I n X.A.in1 x y _ _ _ h2 (hd j x y hx hy) rx ry)
  refine h X.prog X.w X.xe _ ⟨.bl (AB e xs ys),H,I, ?_,q⟩;rw[e1];unfold AB;rw[c,min_self];show Value.bool _=_;simp
 ·refine SeqAt.RcAt.lists_lengths (A:=X.A) (s:=s) pl.isList pl2.isList (by rw[e1,e2];simpa using c) h1 X.prog X.w X.xe _ ⟨.bl (AB e xs ys),H,I, ?_,q⟩;unfold AB;rw[show(xs.length==ys.length)=false by simpa using c,Bool.and_false];rfl
theorem aHZ(hu:X.A.units+64<cLine)(hK:X.K=K:=by rfl):OpR X (compareOp .Eq) (WG K):=by subst hK;exact apZ hu
end
end _L
namespace PySem
open PyProof.Rows
section
variable{prog:Program}{w:World}{A:Around}{E:Value->Shared->Prop}{s:Shared}
theorem QY:∀(vs:List Value) (ns:List Str),vs.length=ns.length->(∀(j:Nat) (v:Value) (x:Str),vs[j]? =some v->ns[j]? =some x->∃t,v=.str x t)->StrsAre vs ns
 | [],[],_,_=> .nil
 | [],_::_,h,_=>by cases h
 |_::_,[],h,_=>by cases h
 |v::vs,n::ns,h,q=>by
  obtain⟨t,e⟩:=q 0 v n rfl rfl;subst e;exact .cons n t (QY vs ns (by simpa using h) λj u x hu hx=>q (j+1) u x hu hx)
theorem EQ{K:Type}[DecidableEq K]{knd:KeyKind prog w K}{Q:Value->Shared->Prop}(hh:A.handled=none){d:Addr}{kvs:List (K×Value)}{ep:Nat}{ns:List Str}(hd:(d==sysModules)=false)(hD:s.heap.DictAt knd d kvs ep)(hl:kvs.length=ns.length)
  (hI:∀(j:Nat) (k:K) (x v:Value) (z:Str),kvs[j]? =some (k,x)->knd.is k v=true->ns[j]? =some z->∃t,v=.str z t)(h64:ns.length<64)
  (hQ:∀(h1 h':Heap) (tk:Nat) (out:Array Value) (ns':List Str) (n:Nat),(∀b o,s.heap.get? b=some o->h1.get? b=some o)->(∀b o,h1.get? b=some o->h'.get? b=some o)->h'.get? h1.objs.size=some {cls:=.type "list",data:=.seq out n}->StrsAre out.toList ns'->ns'.Perm ns->Q (.ref h1.objs.size) {s with heap:=h',toks:=tk}):
  wpAny (model prog w) A (call (.builtin "sorted") [.ref d]) Q E s:=by
 have hcn:checkBuiltinCall "sorted" ⟨[.ref d],[]⟩=pure ():=by kernel_rfl
 have zl:(64:Nat)<=sizeLine:=by decide
 refine wpAny_call (codeAny_call_builtin plain_sorted entry_sorted (wpAny_of_eq hcn ?_));unfold Builtin.sorted;refine bZ (m:=checkCount "sorted" 1 1 1) (wpAny_of_eq (show checkCount "sorted" 1 1 1=pure () by first|rfl|kernel_rfl) ?_);refine bZ (m:=collect (.ref d)) (W.kdu_collect (A:=A.in1) (W.kdl_dict (knd:=knd) (kvs:=kvs) (ep:=ep) hd) hh hD (by omega) λh1 tk acc hk1 hacc=> ?_);obtain⟨a1,a2⟩:=hacc;have hlen:acc.toList.length=ns.length:=by rw[Array.length_toList,a1,hl]
 have hS:StrsAre acc.toList ns:=QY acc.toList ns hlen λj v z hv hz=>by
  obtain⟨k,x,e1,e2⟩:=a2 j v (by simpa using hv);exact hI j k x v z e1 e2 hz
 refine bZ (wpAny_newList ?_ (by omega));have hSl:(h1.push {cls:=.type "list",data:=.seq acc.toList.toArray}).get? h1.objs.size=some {cls:=.type "list",data:=.seq acc.toList.toArray}:=get?_push_size _ rfl;have ty:Shared.TypeIs {s with heap:=h1.push {cls:=.type "list",data:=.seq acc.toList.toArray},toks:=tk} (.ref h1.objs.size) "list":=⟨_,hSl,rfl⟩;refine bZ (wpAny_holding (wpAny_call_entry slot_list_sort ty entry_list_sort (list_sort_treeK (n:=0) strKind_oneLt hSl hS.keysOf (λv₁ v₂ rest e=>keyKind_strs (by rw[<-e];exact hS)) (by omega) λst' hp hs=>⟨.none,rfl, ?_⟩) (args_list_sort _)));obtain⟨ss',i1,i2,i3⟩:=sorted_out_str hS hp hs;obtain⟨n',hn'⟩:=GX (out:=(arrOf st').map (·.2)) hSl;exact pZ (hQ h1 _ _ _ ss' n' hk1 (λb o e1=>GU (gZ _ e1) (ne_of_lt (lt_size e1))) hn' i1 i2)
end
end PySem
namespace _L
open PySem PySem.Spec PyProof.Rows
section
variable{X:Cx}
theorem HD(hc:X.calm=true):S7 X (.builtin "sorted") (λxs H Q=>∃(a:Addr) (kvs:List (Key×V)) (ns:List Str),xs=[.ref a]/\H a=some (.dK kvs)/\kvs.map (·.1)=ns.map Sum.inr/\ns.length<64/\∀(l:Addr) (ns':List Str),H l=none->ns'.Perm ns->Q (.ref l) (upd H l (.lst (ns'.map V.str)))):=by
 intro pins s σ H xs us Q I r h;obtain⟨a,kvs,ns,rfl,ha,hk,hn,q⟩:=h;obtain⟨u,rfl,ru⟩:=BD r;cases ru;obtain⟨z,hd,vs,rel,dd⟩:=UZ I.hok ha;have hkeys:=rel.keys;have hlen:=rel.length;have hkl:kvs.length=ns.length:=by
  have:=congrArg List.length hk
  simpa using this
 have zl:(64:Nat)<=sizeLine:=by decide
 obtain⟨o,es,ep,ho,hx,hdt,hko,hp,hnd⟩:=dd;refine EQ (knd:=J8 X.prog X.w) (kvs:=vs) (ep:=ep) (ns:=ns) (I.ok.hd hc) hd ⟨o,es,ho,hx,hdt,hko,hp,hnd⟩ (by omega) ?_ hn ?_
 ·intro j k x v z e1 e2 hz;have e3:(vs.map (·.1))[j]? =some k:=by rw[getElem?_map,e1];rfl
  rw[<-hkeys,hk,getElem?_map,hz]at e3;have e4:(Sum.inr z:Key)=k:=Option.some.inj e3;subst e4;exact Value.isStrOf_shape (show Value.isStrOf z v=true from e2)
 ·intro h1 h' tk out ns' n k1 k2 hl i1 i2;have I1:Inv X pins σ H {s with heap:=h1}:=I.kept (t':=s.toks) k1;have hz:(ns'.map V.str).length<=sizeLine:=by rw[length_map,i2.length_eq];omega
  exact⟨.ref h1.objs.size,_,I1.laid (t':=tk) k2 (Nat.le_refl _) (show ObjOk X.prog X.w _ h' _ (.lst _)from⟨hz,out.toList,n,EN i1,by simpa using hl⟩),rfl,q _ ns' (I1.hok.fresh (Nat.le_refl _)) i2⟩
end
end _L
namespace PySem
open Sem (wp)
open PyProof.Rows
namespace F
theorem zip_no_keys:typeLookup (.type "zip") (Str.ofString "keys")=pure none:=by rw[typeLookup_type,builtinLookup_eq_fast];kernel_rfl
theorem zip_no_getattr:typeLookup (.type "zip") (Str.ofString "__getattr__")=pure none:=by rw[typeLookup_type,builtinLookup_eq_fast];kernel_rfl
theorem entry_zip_ga:entryFor table "zip.__getattribute__"=some Builtin.«object.__getattribute__»:=
 entryFor_alias (id':="object.__getattribute__") (by kernel_rfl) (by decide +kernel) (by decide +kernel) (by kernel_rfl)
end F
theorem II(a:Addr)(fs:Array Value)(name:Str)(u:Tok)(hmiss:typeLookup (.type "zip") name=pure none)(hname:(["__module__","__name__","__qualname__","__doc__","__annotations__"]:List Str).contains name=false)(hsz:name.length+100<=sizeLine:=by size_fits):
  Meets (Builtin.«object.__getattribute__» ⟨[.ref a,.str name u],[]⟩) (λA R s=>s.heap.get? a=some {cls:=.type "zip",data:=.fields fs}/\raisesAttr (.ref a) name A R s):=
 Meets.of_wp λprog w A R s hs=>by
  obtain⟨hp,g,d,tk,os⟩:=s;obtain⟨hx,hs⟩:=hs;have hT:(⟨hp,g,d,tk,os⟩:Shared).TypeIs (.ref a) "zip":=⟨_,hx,rfl⟩;unfold Builtin.«object.__getattribute__»
  repeat (any_goals (first|assumption|wp_step))
  simp only[hname,Bool.false_eq_true,if_false]
  repeat (any_goals (first|assumption|wp_step))
  exact wpAny_raiseAttrError hs.1 hs.2 (attrMsg_fits (by decide +kernel) hsz)
section
variable{prog:Program}{w:World}{A:Around}{E:Value->Shared->Prop}{s:Shared}
theorem QM{l:Addr}{fs:Array Value}{Q:Option Value->Shared->Prop}(hh:A.handled=none)(hl:s.heap.get? l=some {cls:=.type "zip",data:=.fields fs})
  (q:∀h' tk,(∀b o,s.heap.get? b=some o->h'.get? b=some o)->Q none {s with heap:=h',toks:=tk}):
  wpAny (model prog w) A (getAttr? (.ref l) (Str.ofString "keys")) Q E s:=by
 have ty:s.TypeIs (.ref l) "zip":=⟨_,hl,rfl⟩;have hlk:=F.slot_zip_getattribute.lookup;have hbd:=F.slot_zip_getattribute.bind (.ref l);unfold getAttr?;refine bZ (m:=mkText (Str.ofString "keys")) ?_;unfold mkText
 repeat (any_goals (first|assumption|wp_step))
 refine codeAny_mono (codeAny_call_builtin (R:=wants (λ_ _=>False) (λe s'=>∃h' tk a,s.heap.NewAttrErr h' a (.ref l) (Str.ofString "keys")/\e=.ref a/\s'={s with heap:=h',toks:=tk})) F.slot_zip_getattribute.plain F.entry_zip_ga (F.slot_zip_getattribute.check _ _ _ _ _ _ _ _ (show Shared.TypeIs {s with toks:=s.toks+1} (.ref l) "zip"from⟨_,hl,rfl⟩) (F.args_zip_getattribute_2 _ _)
  (II l fs (Str.ofString "keys") s.toks F.zip_no_keys (by decide +kernel) (by decide +kernel) prog w A _ {s with toks:=s.toks+1} ⟨hl,hh,λh' tk e hn=>⟨h',tk,e,hn,rfl,rfl⟩⟩))) λr s' hr=> ?_
 rcases r with e|fl
 ·obtain⟨h',tk,a,hn,rfl,rfl⟩:=hr;obtain⟨t,u,ha⟩:=hn.there;have hT:Shared.TypeIs {s with heap:=h',toks:=tk} (.ref a) "AttributeError":=⟨_,ha,rfl⟩;have hsub:=F.sub_attrErr;have hng:=F.zip_no_getattr;have fin:=q h' tk hn.keeps
  dsimp only
  repeat (any_goals (first|assumption|wp_step))
 cases fl<;>exact hr.elim
theorem RU{K:Type}[DecidableEq K]{knd:KeyKind prog w K}{R:Result->Shared->Prop}{t1 t2:Bool}{N l1 l2:Nat}{xs ys:Array Value}{ps:List (K×Value)}(hh:A.handled=none)(a1:l1<N)(a2:l2<N)(hps:ps.length=min xs.size ys.size)
  (hp:∀(j:Nat) (p:K×Value),ps[j]? =some p->∃x,xs[j]? =some x/\knd.is p.1 x=true/\ys[j]? =some p.2):
  ∀(rest:List (K×Value)) (i:Nat) (s:Shared) (kvs:List (K×Value)),ps.drop i=rest->i<=ps.length->ZT.Zg t1 t2 N l1 l2 s.heap i->ZT.IsSq t1 s.heap l1 xs->ZT.IsSq t2 s.heap l2 ys->s.heap.DictOf knd (N+5) kvs->kvs.length+rest.length<=sizeLine->
   (∀h' tk,h'.DictOf knd (N+5) (merged kvs rest)->(∀b o,b<N->s.heap.get? b=some o->h'.get? b=some o)->R (.ok (.ret .none)) {s with heap:=h',toks:=tk})->
   codeAny (model prog w) A (.builtin "dict.update.loop" ⟨[.ref (N+5),.ref (N+4),rawInt i,.none],[]⟩) R s
 | [],i,s,kvs,hr,hi,hZ,B1,B2,hD,hz,q=>by
  have D:ZipApart (N+4) (N+2) (N+3) N (N+1) l1 l2:=zipApart_new a1 a2;have hin:i=min xs.size ys.size:=by
   have:=congrArg List.length hr;rw[length_drop,length_nil]at this;omega
  have hend:xs[i]? =none\/ys[i]? =none:=by
   rw[hin];rcases Nat.le_total xs.size ys.size with h|h
   ·exact .inl (by rw[min_eq_left h];exact Array.getElem?_eq_none (Nat.le_refl _))
   ·exact .inr (by rw[min_eq_right h];exact Array.getElem?_eq_none (Nat.le_refl _))
  have fin:∀h',(∀a o,a<N\/N+5<=a->s.heap.get? a=some o->h'.get? a=some o)->R (.ok (.ret .none)) {s with heap:=h',toks:=s.toks}:=λh' keep=>q h' s.toks (by
   obtain⟨o,es,ep,ho,r⟩:=hD;exact⟨o,es,ep,keep _ o (.inr (Nat.le_refl _)) ho,r⟩) λb o hb e=>keep b o (.inl hb) e
  refine codeAny_builtin F.entry_dict_update_loop ?_;rw[Around.under_plainId F.plain_dict_update_loop];unfold Builtin.«dict.update.loop»;obtain⟨z,ti,⟨a,b,to⟩,i1,i2⟩:=hZ;rcases z with⟨_,hz'⟩|⟨T,b',hz',hT,_⟩
  ·refine bZ (ZT.pyNext_fend (A:=A.in1) (s:=s) hh D hz' ti to i1 i2 B1 B2 hend λh' hk'=> ?_);have f:=fin h' λc o hc e=>hk' c o (ZT.nn (by omega)) (ZT.nn (by omega)) (ZT.nn (by omega)) (ZT.nn (by omega)) e
   repeat (any_goals (first|assumption|wp_step))
  ·refine bZ (ZT.pyNext_end (A:=A.in1) (s:=s) hh D hz' hT ti i1 i2 B1 B2 hend λh' hk'=> ?_);have f:=fin h' λc o hc e=>hk' c o (ZT.nn (by omega)) (ZT.nn (by omega)) (ZT.nn (by omega)) e
   repeat (any_goals (first|assumption|wp_step))
 |p::rest,i,s,kvs,hr,hi,hZ,B1,B2,hD,hz,q=>by
  have hpi:ps[i]? =some p:=by
   have:(ps.drop i)[0]? =some p:=by rw[hr];rfl
   rw[List.getElem?_drop]at this
   simpa using this
  obtain⟨x,hx,hk,hy⟩:=hp i p hpi;have hr2:ps.drop (i+1)=rest:=by rw[<-List.drop_drop,hr];rfl
  have hs:N+5<s.heap.objs.size:=by obtain⟨o,_,_,ho,_⟩:=hD;exact lt_size ho
  refine codeAny_builtin F.entry_dict_update_loop ?_;rw[Around.under_plainId F.plain_dict_update_loop];unfold Builtin.«dict.update.loop»;refine bZ (ZT.next_g (A:=A.in1) (s:=s) a1 a2 hs hZ B1 B2 hx hy λh1 hZ1 hp1 hs1 hk1=> ?_);have hD1:h1.DictOf knd (N+5) kvs:=by
   obtain⟨o,es,ep,ho,r⟩:=hD;exact⟨o,es,ep,hk1 _ o (.inr (Nat.le_refl _)) ho,r⟩
  have hpt:h1.IsTuple s.heap.objs.size #[x,p.2]:=⟨_,hp1,rfl,_,rfl⟩;refine bZ (wpAny_holding (bZ (wpAny_tryCatch (PN (s:={s with heap:=h1}) hpt ?_))));refine wpAny_holding (wpAny_dictSet_pairs hk hD1 (λh2 hD2 hs2=> ?_) (by rw[length_cons]at hz;omega));refine pZ ⟨plainId_quiet F.plain_dict_update_loop _, ?_⟩;have hlen:(stored kvs p.1 p.2).length<=kvs.length+1:=by
   unfold stored;split
   ·rw[length_map];omega
   ·rw[length_append];exact Nat.le_refl _
  have k12:∀b o,b<N->s.heap.get? b=some o->h2.get? b=some o:=λb o hb e=>(hs2.2 b (ZT.nn (by omega))).trans (hk1 b o (.inl hb) e);have hi2:i<ps.length:=(List.getElem?_eq_some_iff.mp hpi).1;refine RU hh a1 a2 hps hp rest (i+1) _ (stored kvs p.1 p.2) hr2 hi2 (hZ1.at λc o hc e=>(hs2.2 c (ZT.nn hc)).trans e) (B1.at λo e=>k12 _ o a1 e) (B2.at λo e=>k12 _ o a2 e) hD2 (by rw[length_cons]at hz;omega) λh' tk hd' hk'=> ?_;exact q h' tk hd' λb o hb e=>hk' b o hb (k12 b o hb e)
theorem IV{K:Type}[DecidableEq K]{knd:KeyKind prog w K}{Q:Value->Shared->Prop}(hh:A.handled=none){N:Nat}{fs:Array Value}(hE:s.heap.get? (N+4)=some {cls:=.type "zip",data:=.fields fs})(hsz:s.heap.objs.size=N+5)
  (hz:∀ {h:Heap} {A:Around} {E:Value->Shared->Prop} {s:Shared} {Q:Value->Shared->Prop},s.heap.get? (N+4)=some {cls:=.type "zip",data:=.fields fs}->Q (.ref (N+4)) s->wpAny (model prog w) A (pyIter (.ref (N+4))) Q E s)
  (key:∀h tk,(∀b o,s.heap.get? b=some o->h.get? b=some o)->h.DictOf knd (N+5) []->
   codeAny (model prog w) A.in1 (.builtin "dict.update.loop" ⟨[.ref (N+5),.ref (N+4),rawInt 0,.none],[]⟩) (wants (λv s'=>v=.none/\Q (.ref (N+5)) s') E) {s with heap:=h,toks:=tk}):
  wpAny (model prog w) A (call (.type "dict") [.ref (N+4)]) Q E s:=by
 refine callType_codes (Q₁:=λobj s₁=>obj=.ref s.heap.objs.size/\s₁={s with heap:=s.heap.push {cls:=.type "dict",data:=.dict #[]}}) F.kt_called_dict (F.kt_typeCall_dict_1 _) F.entry_dict_init
  (kt_code_dict_new _ ⟨rfl,rfl⟩) λobj s₁ h₁=> ?_
 obtain⟨rfl,rfl⟩:=h₁;have hS:(s.heap.push {cls:=.type "dict",data:=.dict #[]}).get? s.heap.objs.size=some {cls:=.type "dict",data:=.dict #[]}:=get?_push_size _ rfl;have tyd:Shared.TypeIs {s with heap:=s.heap.push {cls:=.type "dict",data:=.dict #[]}} (.ref s.heap.objs.size) "dict":=⟨_,hS,rfl⟩;have hl1:(s.heap.push {cls:=.type "dict",data:=.dict #[]}).get? (N+4)=some {cls:=.type "zip",data:=.fields fs}:=gZ _ hE;have tyl:Shared.TypeIs {s with heap:=s.heap.push {cls:=.type "dict",data:=.dict #[]}} (.ref (N+4)) "zip":=⟨_,hl1,rfl⟩;refine⟨tyd,F.args_dict_init_2 _ _, ?_⟩;unfold Builtin.«dict.__init__»;unfold Builtin.Dict.selfAndRest Builtin.Dict.notOrdered;refine bZ (bZ ?_);rw[if_pos (by decide)];refine bZ (wpAny_typeOf tyd ?_);rw[if_neg (by decide)];refine pZ (bZ (pZ (pZ ?_)));show wpAny _ _ (Builtin.Dict.updateFrom "dict.__init__" s.heap.objs.size (.ref (N+4)) [] .none) _ _ _;unfold Builtin.Dict.updateFrom;refine bZ (wpAny_typeOf tyl ?_);rw[if_pos (by decide)];refine bZ (QM (A:=A.in1.in1) hh hl1 λh2 tk hk2=> ?_);rw[if_pos (show(none:Option Value).isNone=true from rfl)];refine bZ (wpAny_rule ?_);refine bZ (hz (h:=h2) (s:={s with heap:=h2,toks:=tk}) (hk2 _ _ hl1) ?_);refine pZ ⟨plainId_quiet F.plain_dict_update_loop _, ?_⟩;rw[hsz];refine key h2 tk (λb o e=>hk2 b o (gZ _ e)) ?_;obtain⟨o,es,ep,ho,r⟩:=Heap.DictOf.new (knd:=knd) s.heap;rw[hsz]at ho;exact⟨o,es,ep,hk2 _ _ ho,r⟩
end
end PySem
namespace _L
open PySem PySem.Spec PyProof.Rows
section
variable{X:Cx}{K:FZ}
noncomputable def FS(zs:List Str)(ys:List V):List (Key×V):=(zs.zip ys).map λp=>(.inr p.1,p.2)
theorem aoZ{ys:List V}{us:List Value}(h:Vals ys us):∀zs:List Str,KV (FS zs ys) ((zs.zip us).map λp=>(.inr p.1,p.2)):=by
 induction h with
 |nil=>intro zs;cases zs<;>exact .nil
 |cons rx _ ih=>
  intro zs;cases zs with
  |nil=>exact .nil
  |cons z r=>exact .cons ⟨rfl,rx⟩ (ih r)
noncomputable def WA(K:FZ)(ta:TA):TE:=fun σ H Q=>ta σ H λvs H1=>∃a b zs ys,vs=[.ref a,.ref b]/\SqL K H1 a (zs.map V.str)/\SqL K H1 b ys/\zs.length<=1000/\
 ∀d,H1 d=none->Q (.ref d) (upd H1 d (.dK (L8 [] (FS zs ys))))
theorem PX{a b:Expr}{ta:TA}{p p' pos pos':Pos}(hg:Gl X "zip")(hm:X.mg "zip"=none)(hg':Gl X "dict")(hm':X.mg "dict"=none)(hc:X.calm=true)(ha:PA X [a,b] ta)(hK:X.K=K:=by rfl)
  (hs:starEach [a,b] X.env=[(false,eval a X.env),(false,eval b X.env)]:=by rfl)(hs2:starEach [b] X.env=[(false,eval b X.env)]:=by rfl)
  (hs':starEach [.Call (.Name "zip" p) [a,b] [] pos] X.env=[(false,eval (.Call (.Name "zip" p) [a,b] [] pos) X.env)]:=by rfl):
  PE X (.Call (.Name "dict" p') [.Call (.Name "zip" p) [a,b] [] pos] [] pos') (WA K ta):=by
 subst hK;intro pins s σ H Q I h;refine wpAny_Call_Name_kw (Q0 I hg' hm' QV ?_);refine callWith_type1 ?_ hs' rfl;rw[hs'];refine Calls.spliced_cons (Call_ (Q0 I hg hm ME (callWith_type1 (thn (ha pos pins s σ H _ I h) λus s1 ⟨vs,H1,I1,r1,q1⟩=> ?_) (by rw[hs,hs2]) (by rw[hs2];rfl))));obtain⟨l1,l2,zs,ys,e,q1,q2,hz,q⟩:=q1;subst e;cases r1 with
 |cons r rr=>
  cases rr with
  |cons r' rr=>
   cases rr;cases r;cases r';obtain⟨i1,v1,pl1,_⟩:=I1.list q1;obtain⟨i2,v2,pl2,_⟩:=I1.list q2;have p1:ZT.IsSq false s1.heap l1 i1.toArray:=pl1.isList;have p2:ZT.IsSq false s1.heap l2 i2.toArray:=pl2.isList;have lt1:=Y7 p1;have lt2:=Y7 p2;have e1:=v1.length;have e2:=v2.length;rw[length_map]at e1;have zl:(1000:Nat)<=sizeLine:=by decide
   refine ZT.call_zipX p1 p2 λh' hz' ti to j1 j2 hsz hk=>Calls.spliced_nil ?_;let ps:List (Key×Value):=(zs.zip i2).map λp=>(.inr p.1,p.2);have hpl:ps.length=min i1.toArray.size i2.toArray.size:=by
    show((zs.zip i2).map _).length=_;rw[length_map,List.length_zip,e1];simp
   have hpj:∀(j:Nat) (p:Key×Value),ps[j]? =some p->∃x,i1.toArray[j]? =some x/\(J8 X.prog X.w).is p.1 x=true/\i2.toArray[j]? =some p.2:=λj p hp=>by
    have hp:((zs.zip i2).map _)[j]? =some p:=hp;rw[getElem?_map]at hp;obtain⟨⟨z,y⟩,hzy,rfl⟩:=map_eq_some_iff.mp hp;obtain⟨h1,h2⟩:=List.getElem?_zip_eq_some.mp hzy;obtain⟨x,hx,rx⟩:=v1.get_ (i:=j) (x:=.str z) (by rw[getElem?_map,h1];rfl);exact⟨x,hx,IR (k:=.inr z) rx,by simpa using h2⟩
   have hkv:KV (FS zs ys) ps:=aoZ v2 zs;refine IV (knd:=J8 X.prog X.w) (s:={s1 with heap:=h'}) (I1.ok.hd hc) hz' hsz (λe q=>wpAny_pyIter_zip e q) λh2 tk hk2 hD=> ?_;have k2:∀b o,s1.heap.get? b=some o->h2.get? b=some o:=λb o e=>hk2 b o (hk b o e);have Z2:ZT.Zg false false s1.heap.objs.size l1 l2 h2 0:=(ZT.Zg.mk (.inl ⟨rfl,hz'⟩) ti ⟨_,_,to⟩ j1 j2:ZT.Zg false false s1.heap.objs.size l1 l2 h' 0).at λc o _ e=>hk2 c o e;refine RU (A:=X.A.in1) (knd:=J8 X.prog X.w) (ps:=ps) (I1.ok.hd hc) lt1 lt2 hpl hpj ps 0 {s1 with heap:=h2,toks:=tk} [] rfl (zero_le _) Z2 (p1.at λo e=>k2 _ o e) (p2.at λo e=>k2 _ o e) hD (by rw[hpl,length_nil];simp only[size_toArray];omega) λh3 tk3 hd3 k3=>⟨rfl, ?_⟩;have hr0:H1 (s1.heap.objs.size+5)=none:=I1.hok.fresh (le_add_right _ _);have hb:(s1.heap.objs.size+5==sysModules)=false:=beq_eq_false_iff_ne.mpr (Ne.symm (ne_of_lt (lt_of_lt_of_le I1.big (le_add_right _ _))));have hzz:(L8 [] (FS zs ys)).length<=sizeLine:=by
    have h1:=Z5 (FS zs ys) [];rw[length_nil]at h1;have:(FS zs ys).length<=zs.length:=by unfold FS;rw[length_map,List.length_zip];omega
    omega
   exact⟨.ref (s1.heap.objs.size+5),_,I1.laid (t':=tk3) (λb o e=>k3 b o (lt_size e) (k2 b o e)) (le_add_right _ _) (LG hzz hb (hkv.merge .nil) hd3),rfl,q _ hr0⟩
end
end _L
namespace _B
open PySem _L
noncomputable abbrev AS:=Addr->Prop
noncomputable def Kp(S:AS)(H H':Hp):Prop:=(∀b xs,H b=some (.tup xs)->H' b=some (.tup xs))/\∀b o,H b=some o->¬S b->H' b=some o
theorem Kp.trans{S:AS}{H H1 H2:Hp}(a:Kp S H H1)(b:Kp S H1 H2):Kp S H H2:=⟨λc xs h=>b.1 c xs (a.1 c xs h),λc xs h n=>b.2 c xs (a.2 c xs h n) n⟩
theorem Kp.of{S:AS}{H H':Hp}(h:Same H H'):Kp S H H':=⟨λb o q=>h b _ q,λb o q _=>h b o q⟩
theorem Kp.upd{S:AS}{H:Hp}{p:Addr}{xs:List V}(h:S p)(hp:H p=some (.lst xs))(o:HO):Kp S H (upd H p o):=⟨λb u q=>by
 rw[B9 (BL q hp (by intro z;cases z))];exact q,λb u q n=>by
 have e:b≠p:=λe=>n (by rw[e];exact h);rw[B9 e];exact q⟩
theorem Kp.tups{S:AS}{H H':Hp}(h:Kp S H H'){b:Addr}{xs:List V}(q:H b=some (.tup xs)):H' b=some (.tup xs):=h.1 b xs q
noncomputable def Wd(H:Hp)(S S':AS):Prop:=∀a,S' a->S a\/H a=none
theorem A1{H:Hp}{p:Addr}(h:H p=none)(o:HO):Same H (upd H p o):=λb u q=>by rw[B9 (C1 q h)];exact q
structure Tr where
 T:Type
 kids:T->List T
 size:T->Nat
 val:AS->Hp->T->V->Prop
 res:AS->Hp->T->V->Prop
 hsz:∀t,size t=1+((kids t).map size).sum
 vm:∀ {S H H' t v},Kp S H H'->val S H t v->val S H' t v
 rm:∀ {S H H' t v},Kp S H H'->res S H t v->res S H' t v
 vw:∀ {S S' H t v},Wd H S S'->val S H t v->val S' H t v
 rw':∀ {S S' H t v},Wd H S S'->res S H t v->res S' H t v
inductive All2 {α β:Type} (R:α->β->Prop):List α->List β->Prop where
 |nil:All2 R [] []
 |cons {a b as bs}:R a b->All2 R as bs->All2 R (a::as) (b::bs)
namespace All2
variable{α β:Type}{R S:α->β->Prop}
theorem imp{as:List α}{bs:List β}(h:All2 R as bs)(f:∀a b,R a b->S a b):All2 S as bs:=by
 induction h with
 |nil=>exact .nil
 |cons r _ ih=>exact .cons (f _ _ r) ih
theorem app{as as':List α}{bs bs':List β}(h:All2 R as bs)(h':All2 R as' bs'):All2 R (as++as') (bs++bs'):=by
 induction h with
 |nil=>exact h'
 |cons r _ ih=>exact .cons r ih
theorem rev{as:List α}{bs:List β}(h:All2 R as bs):All2 R as.reverse bs.reverse:=by
 induction h with
 |nil=>exact .nil
 |cons r _ ih=>rw[reverse_cons,reverse_cons];exact ih.app (.cons r .nil)
theorem len{as:List α}{bs:List β}(h:All2 R as bs):as.length=bs.length:=by
 induction h with
 |nil=>rfl
 |cons _ _ ih=>simp only[length_cons,ih]
theorem get{as:List α}{bs:List β}(h:All2 R as bs):∀ {i:Nat} {b:β},bs[i]? =some b->∃a,as[i]? =some a/\R a b:=by
 induction h with
 |nil=>intro i b e;simp at e
 | @cons a b as bs r _ ih=>
  intro i c e;cases i with
  |zero=>simp at e;subst e;exact⟨a,rfl,r⟩
  |succ i=>exact ih (by simpa using e)
theorem split{as as':List α}:∀ {bs:List β},All2 R (as++as') bs->∃b1 b2,bs=b1++b2/\All2 R as b1/\All2 R as' b2:=by
 induction as with
 |nil=>intro bs h;exact⟨[],bs,rfl,.nil,h⟩
 |cons a as ih=>
  intro bs h;cases h with
  |cons r h=>
   obtain⟨b1,b2,rfl,h1,h2⟩:=ih h;exact⟨_::b1,b2,rfl,.cons r h1,h2⟩
end All2
inductive Reach (D:Tr) (t0:D.T):List D.T->List D.T->Prop where
 |start:Reach D t0 [] [t0]
 |step {A:List D.T} {t:D.T} {r:List D.T}:Reach D t0 A (t::r)->Reach D t0 (A++ [t]) (D.kids t++r)
theorem Reach.back{D:Tr}{t0 t:D.T}{A W:List D.T}(h:Reach D t0 (A++ [t]) W):∃r,W=D.kids t++r/\Reach D t0 A (t::r):=by
 generalize e:A++ [t]=B at h;cases h with
 |start=>simp at e
 |step h=>
  have:=List.append_inj' e rfl;obtain⟨rfl,e2⟩:=this;cases e2;exact⟨_,rfl,h⟩
theorem Reach.first{D:Tr}{t0:D.T}{W:List D.T}(h:Reach D t0 [] W):W=[t0]:=by
 generalize e:([]:List D.T)=B at h;cases h with
 |start=>rfl
 |step h=>simp at e
theorem Reach.size{D:Tr}{t0:D.T}{A W:List D.T}(h:Reach D t0 A W):A.length+(W.map D.size).sum=D.size t0:=by
 induction h with
 |start=>simp
 | @step A t r _ ih=>
  simp only[length_append,length_cons,length_nil,map_append,List.sum_append,map_cons,sum_cons]at ih⊢;have:=D.hsz t;omega
theorem Tr.pos(D:Tr)(t:D.T):1<=D.size t:=by have:=D.hsz t;omega
theorem Tr.len_le(D:Tr):∀W:List D.T,W.length<=(W.map D.size).sum
 | []=>Nat.le_refl _
 |t::r=>by have:=D.pos t;have:=D.len_le r;simp only[length_cons,map_cons,sum_cons];omega
theorem Tr.kids_le(D:Tr)(t:D.T):(D.kids t).length<=D.size t:=by have:=D.len_le (D.kids t);have:=D.hsz t;omega
noncomputable def MetAt(D:Tr)(S:AS)(H:Hp)(t:D.T)(x:V):Prop:=∃p v,x=.ref p/\H p=some (.tup [v,.int ((D.kids t).length:Nat)])/\D.val S H t v
theorem MetAt.mono{D:Tr}{S:AS}{H H':Hp}(m:Kp S H H'){t:D.T}{x:V}(h:MetAt D S H t x):MetAt D S H' t x:=by
 obtain⟨p,v,e,hp,hv⟩:=h;exact⟨p,v,e,m.tups hp,D.vm m hv⟩
theorem MetAt.wide{D:Tr}{S S':AS}{H:Hp}(m:Wd H S S'){t:D.T}{x:V}(h:MetAt D S H t x):MetAt D S' H t x:=by
 obtain⟨p,v,e,hp,hv⟩:=h;exact⟨p,v,e,hp,D.vw m hv⟩
inductive spPW (D:Tr) (vs:List V) (H:Hp) (Q:VK):Prop
 |mk:∀S t v,(vs=[v])->(D.val S H t v)->(D.size t<=400000)->(∀r H' ps,Same H H'->H r=none->H' r=some (.lst ps)->All2 (D.val S H') (D.kids t) ps->Q (.ref r) H')->spPW D vs H Q
noncomputable def spP(D:Tr):Sp:=λvs H Q _=>spPW D vs H Q
inductive spMW (D:Tr) (vs:List V) (H:Hp) (Q:VK):Prop
 |mk:∀S t v l us,(vs=[v,.ref l])->(D.val S H t v)->(D.size t<=400000)->(H l=some (.lst us))->(¬S l)->((∀a,S a->H a≠none))->(All2 (D.res S H) (D.kids t) us)->(∀r H',Same H H'->D.res S H' t r->Q r H')->spMW D vs H Q
noncomputable def spM(D:Tr):Sp:=λvs H Q _=>spMW D vs H Q
inductive spBuiltW (P:Program) (w:World) (K:FZ) (mg:Str->Option Value) (base:Heap) (vs:List V) (H:Hp) (Q:VK):Prop
 |mk:∀(D:Tr) (S:AS) (t:D.T) (v:V) (fp fm:Addr) (dp dm:FuncData) (np nm:List Str),(vs=[v,.ref fp,.ref fm])->(FnOk P w K mg base CX0 2 fp dp np (spP D))->(kZ K (.ref fp)=true)->(Binds K dp np [])->(FnOk P w K mg base CX0 2 fm dm nm (spM D))->(kZ K (.ref fm)=true)->(Binds K dm nm [])->((∀a,S a->H a≠none))->(D.val S H t v)->(D.size t<=400000)->(∀r H',Same H H'->D.res S H' t r->Q r H')->spBuiltW P w K mg base vs H Q
noncomputable def spBuilt(P:Program)(w:World)(K:FZ)(mg:Str->Option Value)(base:Heap):Sp:=λvs H Q _=>spBuiltW P w K mg base vs H Q
end _B
namespace _B
open PySem _L
theorem upd_id{H:Hp}{a:Addr}{o:HO}(h:H a=some o):upd H a o=H:=by
 funext b
 unfold upd;split
 ·rename_i e;rw[e,h]
 ·rfl
end _B
namespace _B
open PySem _L
seal PE PT PW PA PS PSs PTs PI PG PGs PO
noncomputable def top(i:Nat):Stmt:=PySem.Challenge.pw_speakmill_k41_one_state_leads_on.main.body.getD i (.Pass ⟨0,0,0,0⟩)
noncomputable abbrev s_built_up:Stmt:=top 10
noncomputable abbrev IB:List Str:=["root","parts_in","made","met","waiting","node","parts","done","many","made_parts"]
theorem sc_built_up:FnScope IB beZ (B3 s_built_up):=fS
structure NoG (mg:Str->Option Value):Prop where
 len_:mg "len"=none
 list_:mg "list"=none
 reversed_:mg "reversed"=none
 range_:mg "range"=none
 zip_:mg "zip"=none
 isinstance_:mg "isinstance"=none
 str_:mg "str"=none
 tuple_:mg "tuple"=none
 sum_:mg "sum"=none
 max_:mg "max"=none
 min_:mg "min"=none
 int_:mg "int"=none
 bool_:mg "bool"=none
 enumerate_:mg "enumerate"=none
 all_:mg "all"=none
theorem ifT{c A B:Prop}[Decidable c](h:c)(a:A):if c then A else B:=by rw[if_pos h];exact a
theorem ifF{c A B:Prop}[Decidable c](h:¬c)(b:B):if c then A else B:=by rw[if_neg h];exact b
theorem O2{H:Hp}{a b:Addr}{o o':HO}(h:H b=some o)(n:b≠a):upd H a o' b=some o:=by rw[B9 n];exact h
theorem XN{H:Hp}{a b:Addr}{o':HO}(h:upd H a o' b=none):H b=none/\b≠a:=by
 by_cases e:b=a
 ·subst e;rw[A2]at h;cases h
 ·rw[B9 e]at h;exact⟨h,e⟩
theorem NG(y:V)(ws:List V):(y::ws).reverse[(y::ws).reverse.length - 1]? =some y:=by
 rw[reverse_cons];simp
theorem MO(y:V)(ws:List V):(y::ws).reverse.dropLast=ws.reverse:=by
 rw[reverse_cons];simp
theorem b6Z{ws us:List V}(h:ws.reverse=us):ws=us.reverse:=by rw[<-h,List.reverse_reverse]
theorem take_one{α:Type}{A:List α}{k:Nat}{t:α}(h:A[k]? =some t):A.take (k+1)=A.take k++ [t]:=by
 obtain⟨h1,h2⟩:=List.getElem?_eq_some_iff.mp h;rw[List.take_succ_eq_append_getElem h1,h2]
section
variable{P:Program}{w:World}{K:FZ}{mg:Str->Option Value}{base:Heap}{f:Addr}{fd:FuncData}
theorem ok_built_up(F:Fun K "built_up" "built_up" s_built_up f fd)(B:NoG mg):FnOk P w K mg base CX0 3 f fd beZ (spBuilt P w K mg base):=by
 refine F.ok sc_built_up (λvs H Q E h=> ?_) (λcdv A outer s H vs Q E hr h=> ?_)
 ·obtain⟨D,S,t,v,fp,fm,dp,dm,np,nm,rfl,_⟩:=h;rfl
 obtain⟨D,S,t,v,fp,fm,dp,dm,np,nm,rfl,FP,kp,bp,FM,km,bm,hSo,hval,hsz,q⟩:=h;have nd:=sc_built_up.nd;have hu:=hr.units0;have z1:(1:Nat)<=sizeLine:=by decide
 have z2:(2:Nat)<=sizeLine:=by decide
 have z3:(400000:Nat)+400000<sizeLine:=by decide
 refine⟨_,(A6 (sS 3 nd (K1 A5))
   (A6 (sS 4 nd (K1 (A0 (pv 0) A5)))
   (A6 (WQ PassesOwn.never (N5 (K:=K) (pv 4) (λ_=>rfl)) (A6 (sS 5 nd (XV (K:=K) PySem.F.plainAttrs_list PySem.F.slot_list_pop PySem.F.type_list_pop QN (pv 4)))
   (A6 (sS 6 nd (NR (P:=P) (w:=w) (K:=K) (mg:=mg) (base:=base) (pv 1) E5 (A0 (pv 5) A5)))
   (A6 (CI (aP K (pv 3) (A8 (A0 (pv 5) (A0 (kL K B.len_ (pv 6)) A5)))))
   (A9 (CI (aqZ (K:=K) PySem.F.plainAttrs_list PySem.F.slot_list_extend PySem.F.type_list_extend SW (pv 4) (A0 (PP (K:=K) rfl B.reversed_ rfl B.list_ rfl (A0 (pv 6) A5)) A5))))))))
   (A6 (BS (i:=7) nd rfl (Or.inr rfl) (K1 A5))
   (A6 (FI PassesOwn.never rfl (bIZ (K:=K) rfl B.reversed_ (A0 (pv 3) A5)) (FQ rfl (O4 (gN 5 nd) (O4 (gN 8 nd) CK))) (A6 (N2 (i:=9) nd rfl rfl (cS (N:=IB) (sc:=B3 s_built_up) (caps:=[7]) (ns:=["done"])) rfl rfl rfl (O6 rfl B.range_ (A0 (pv 8) A5)) (λ_ _ _ _ _=>P5) (λ_ _ _ _ _=>(XV (K:=K) PySem.F.plainAttrs_list PySem.F.slot_list_pop PySem.F.type_list_pop QN (pv 1))))
   (A9 (CI (aP K (pv 7) (NR (P:=P) (w:=w) (K:=K) (mg:=mg) (base:=base) (pv 2) E5 (A0 (pv 5) (A0 (pv 9) A5))))))))
   (A9 (B4 (XV (K:=K) PySem.F.plainAttrs_list PySem.F.slot_list_pop PySem.F.type_list_pop QN (pv 7))))))))), ?_⟩
 refine⟨(by show 0<=sizeLine;decide),λml hml=> ?_⟩;refine⟨_,rfl,z1,λwl hwl0=> ?_⟩;obtain⟨hwl,nwm⟩:=XN hwl0;have g0:Same H (upd (upd H ml (.lst [])) wl (.lst [v])):=(A1 hml _).trans (A1 hwl0 _);obtain⟨S1,w1,hS1,mS,wS,sub1⟩:∃S1:AS,Wd H S S1/\(∀H':Hp,Same H H'->H' ml≠none->H' wl≠none->∀a,S1 a->H' a≠none)/\S1 ml/\S1 wl/\∀a,S a->S1 a:=by
  refine⟨λa=>S a\/a=ml\/a=wl,λa ha=> ?_,λH' sm h1 h2 a ha=> ?_,.inr (.inl rfl),.inr (.inr rfl),λa h=> .inl h⟩
  ·rcases ha with h|rfl|rfl
   ·exact .inl h
   ·exact .inr hml
   ·exact .inr hwl
  ·rcases ha with h|rfl|rfl
   ·obtain⟨o,ho⟩:=ne_none_iff_exists'.mp (hSo a h);rw[sm _ _ ho];exact λz=>nomatch z
   ·exact h1
   ·exact h2
 have hval1:=D.vw w1 hval;refine⟨λm σ H'=>∃(N W:List D.T) (ms ws:List V) (y1 y2:Option V),σ=[some v,some (.ref fp),some (.ref fm),some (.ref ml),some (.ref wl),y1,y2,none,none,none]/\Same H H'/\H' ml=some (.lst ms)/\H' wl=some (.lst ws)/\
   All2 (MetAt D S1 H') N ms/\All2 (D.val S1 H') W ws.reverse/\Reach D t N W/\m=(W.map D.size).sum,
  ⟨D.size t,[],[t],[],[v],none,none,rfl,g0,O2 A2 (Ne.symm nwm),A2,.nil,.cons (D.vm (.of g0) hval1) .nil,.start,by simp⟩, ?_⟩
 rintro m σ H' ⟨N,W,ms,ws,y1,y2,rfl,sm,hm,hw,hN,hW,hR,rfl⟩;have hms:=hN.len;have hRs:=hR.size;refine⟨_,rfl, !ws.isEmpty,.inl ⟨ws,SqL.of hw,rfl⟩, ?_⟩;generalize ew:ws.reverse=wr at hW;have ew:=b6Z ew;subst ew;cases hW with
 | @cons n u W' wr hn hW'=>
  refine ifT (by simp) ?_;refine⟨_,λ_ _ h=>h, ?_⟩;refine⟨_,rfl,.inl ⟨rfl,_,SqL.of hw⟩,wl,_,_,rfl,rfl,hw,NG _ _, ?_⟩;rw[MO];have t1:Kp S1 H' (upd H' wl (.lst wr.reverse)):=.upd wS hw _;have hm1:upd H' wl (.lst wr.reverse) ml=some (.lst ms):=O2 hm (Ne.symm nwm);have hw1:upd H' wl (.lst wr.reverse) wl=some (.lst wr.reverse):=A2;have o1:Same H (upd H' wl (.lst wr.reverse)):=λb o e=>O2 (sm b o e) (C1 e hwl);generalize upd H' wl (.lst wr.reverse)=H1 at t1 hm1 hw1 o1⊢;have hkn:=D.kids_le n;have hszn:D.size n<=400000:=by simp only[map_cons,sum_cons]at hRs;omega
  refine⟨_,rfl,fp,dp,np,spP D,2,rfl,FP,hr.mono (by decide),kp,bp,_,rfl,S1,n,u,rfl,D.vm t1 hn,hszn,λr H2 ps s2 hr1 hr2 hps=> ?_⟩;have hm2:=s2 _ _ hm1;have hw2:=s2 _ _ hw1;have o2:=o1.trans s2;have t2:Kp S1 H' H2:=t1.trans (.of s2);have nrw:r≠wl:=λe=>by subst e;rw[hw1]at hr1;cases hr1
  have nrm:r≠ml:=λe=>by subst e;rw[hm1]at hr1;cases hr1
  have hpl:=hps.len;refine⟨_,rfl,.inl ⟨rfl,_,SqL.of hm2⟩,_,rfl,_,rfl,_,_,rfl,.inl ⟨_,SqL.of hr2,rfl⟩,z2,λp hp=> ?_⟩;have s3:Same H2 (upd H2 p (.tup [u,.int (ps.length:Nat)])):=A1 hp _;refine⟨ml,_,_,rfl,rfl,s3 _ _ hm2,by omega, ?_⟩;have t4:Kp S1 H' (upd (upd H2 p (.tup [u,.int (ps.length:Nat)])) ml (.lst (ms++ [.ref p]))):=(t2.trans (.of s3)).trans (.upd mS (s3 _ _ hm2) _);have hp4:upd (upd H2 p (.tup [u,.int (ps.length:Nat)])) ml (.lst (ms++ [.ref p])) p=some (.tup [u,.int (ps.length:Nat)]):=O2 A2 (λe=>by subst e;rw[hm2]at hp;cases hp);have hm4:upd (upd H2 p (.tup [u,.int (ps.length:Nat)])) ml (.lst (ms++ [.ref p])) ml=some (.lst (ms++ [.ref p])):=A2;have hw4:upd (upd H2 p (.tup [u,.int (ps.length:Nat)])) ml (.lst (ms++ [.ref p])) wl=some (.lst wr.reverse):=O2 (s3 _ _ hw2) nwm;have hr4:upd (upd H2 p (.tup [u,.int (ps.length:Nat)])) ml (.lst (ms++ [.ref p])) r=some (.lst ps):=O2 (s3 _ _ hr2) nrm;have o4:Same H (upd (upd H2 p (.tup [u,.int (ps.length:Nat)])) ml (.lst (ms++ [.ref p]))):=λb o e=>O2 (s3 _ _ (o2 b o e)) (C1 e hml);have t24:Kp S1 H2 (upd (upd H2 p (.tup [u,.int (ps.length:Nat)])) ml (.lst (ms++ [.ref p]))):=(Kp.of s3).trans (.upd mS (s3 _ _ hm2) _);generalize upd (upd H2 p (.tup [u,.int (ps.length:Nat)])) ml (.lst (ms++ [.ref p]))=H4 at t4 hp4 hm4 hw4 hr4 o4 t24⊢;refine⟨_,rfl,.inl ⟨rfl,_,SqL.of hw4⟩,_,rfl,r,ps,rfl,SqL.of hr4,λr2 hr2'=> ?_⟩;have s5:Same H4 (upd H4 r2 (.lst ps.reverse)):=A1 hr2' _;have hWl:=D.len_le W';have hWe:=hW'.len;refine⟨wl,r2,_,_,rfl,rfl,s5 _ _ hw4,A2, ?_, ?_⟩
  ·simp only[length_reverse];simp only[map_cons,sum_cons]at hRs;omega
  have t6:Kp S1 H4 (upd (upd H4 r2 (.lst ps.reverse)) wl (.lst (wr.reverse++ps.reverse))):=(Kp.of s5).trans (.upd wS (s5 _ _ hw4) _);refine⟨_, ?_,N++ [n],D.kids n++W',ms++ [.ref p],wr.reverse++ps.reverse,_,_,rfl,λb o e=>O2 (s5 _ _ (o4 b o e)) (C1 e hwl),O2 (s5 _ _ hm4) (Ne.symm nwm),A2, ?_, ?_,.step hR,rfl⟩
  ·simp only[map_append,List.sum_append,map_cons,sum_cons];have:=D.hsz n;omega
  ·refine(hN.imp λa b h=>h.mono (t4.trans t6)).app (.cons ⟨p,u,rfl, ?_,D.vm (t4.trans t6) hn⟩ .nil);rw[hpl];exact t6.tups hp4
  ·rw[List.reverse_append,List.reverse_reverse,List.reverse_reverse];exact(hps.imp λa b h=>D.vm (t24.trans t6) h).app (hW'.imp λa b h=>D.vm (t4.trans t6) h)
 |nil=>
  refine ifF (by simp) ?_;refine⟨(by show 0<=sizeLine;decide),λdl hdl=> ?_⟩;have s7:Same H' (upd H' dl (.lst [])):=A1 hdl _;have hdl0:H dl=none:=sm.free hdl;have ndm:dl≠ml:=λe=>by subst e;rw[hm]at hdl;cases hdl
  have hm':H' ml≠none:=by rw[hm];exact λz=>nomatch z
  have hw':H' wl≠none:=by rw[hw];exact λz=>nomatch z
  have ndw:dl≠wl:=λe=>by subst e;rw[hw]at hdl;cases hdl
  obtain⟨S2,w2,hS2,dS,sub2⟩:∃S2:AS,Wd H' S1 S2/\(∀H2:Hp,Same H H2->H2 ml≠none->H2 wl≠none->H2 dl≠none->∀a,S2 a->H2 a≠none)/\S2 dl/\∀a,S a->S2 a:=by
   refine⟨λa=>S1 a\/a=dl,λa ha=> ?_,λH2 sm2 h1 h2 h3 a ha=> ?_,.inr rfl,λa h=> .inl (sub1 a h)⟩
   ·rcases ha with h|rfl
    ·exact .inl h
    ·exact .inr hdl
   ·rcases ha with h|rfl
    ·exact hS1 H2 sm2 h1 h2 a h
    ·exact h3
  have hN2:=hN.imp λa b h=>h.wide w2;refine⟨_,rfl,ml,ms,rfl,SqL.of (s7 _ _ hm),anZ (xs:=ms) (λi σ H'=>∃(W:List D.T) (us:List V) (y1 y2 y3 y4:Option V),σ=[some v,some (.ref fp),some (.ref fm),some (.ref ml),some (.ref wl),y1,y2,some (.ref dl),y3,y4]/\Same H H'/\H' ml=some (.lst ms)/\H' wl≠none/\
   All2 (MetAt D S2 H') N ms/\H' dl=some (.lst us.reverse)/\All2 (D.res S2 H') W us/\Reach D t (N.take (N.length - i)) W) ?_ ?_ ?_ ?_⟩
  ·exact⟨[],[],_,_,_,_,rfl,sm.trans s7,s7 _ _ hm,(by rw[s7 _ _ hw];exact λz=>nomatch z),hN2.imp λa b h=>h.mono (.of s7),A2,.nil,by rw[Nat.sub_zero,take_length];exact hR⟩
  ·rintro i σ H' _ ⟨W,us,y1,y2,y3,y4,rfl,sm,hm,_⟩;exact SqL.of hm
  ·rintro i x σ H' hx ⟨W,us,y1,y2,y3,y4,rfl,sm,hm,hwn,hN,hd,hW,hRi⟩;have hi:i<ms.length:=by
    have:=(List.getElem?_eq_some_iff.mp hx).1
    simpa using this
   rw[getElem?_reverse hi]at hx;obtain⟨n,hn,p,u,rfl,hp,hu'⟩:=hN.get hx;have e1:N.length - i=(ms.length - 1 - i)+1:=by omega
   rw[e1,take_one hn]at hRi;obtain⟨r,rfl,hRb⟩:=hRi.back;obtain⟨b1,b2,rfl,hb1,hb2⟩:=hW.split;have hbl:=hb1.len;have hkn:=D.kids_le n;have hRs2:=hRb.size;have hszn:D.size n<=400000:=by simp only[map_cons,sum_cons]at hRs2;omega
   refine⟨p,_,rfl,SqT.of hp,rfl,_,_,rfl,_,_,rfl,rfl, ?_⟩;refine⟨_,rfl,((D.kids n).length:Nat),rfl,by omega,by omega,P1 (n:=(D.kids n).length) (λj ys H2=>ys=b1.take j/\H2=upd H' dl (.lst (b1.drop j++b2).reverse)) ?_ ?_ ?_ ?_⟩
   ·exact⟨rfl,by rw[List.drop_zero];exact(upd_id hd).symm⟩
   ·rintro j ys H2 hj ⟨rfl,_⟩;rw[length_take];omega
   ·rintro j ys H2 hj ⟨rfl,rfl⟩;refine T3 ?_;have hjb:j<b1.length:=by omega
    have ed:b1.drop j=b1[j]::b1.drop (j+1):=List.drop_eq_getElem_cons hjb;rw[ed];refine⟨_,rfl,.inl ⟨rfl,_,SqL.of A2⟩,dl,_,_,rfl,rfl,A2,NG _ _, ?_⟩;refine⟨?_, ?_⟩
    ·rw[List.take_succ_eq_append_getElem hjb]
    ·rw[arZ];congr 2;exact MO _ _
   ·rintro ys H2 ⟨rfl,rfl⟩ l hl;rw[hbl,List.drop_length,take_length,List.nil_append]at*;have s8:Same (upd H' dl (.lst b2.reverse)) (upd (upd H' dl (.lst b2.reverse)) l (.lst b1)):=A1 hl _;have t8:Kp S2 H' (upd (upd H' dl (.lst b2.reverse)) l (.lst b1)):=(Kp.upd dS hd _).trans (.of s8);have wn8:upd (upd H' dl (.lst b2.reverse)) l (.lst b1) wl≠none:=by
     obtain⟨o,ho⟩:=ne_none_iff_exists'.mp hwn;rw[s8 _ _ (O2 ho (Ne.symm ndw))];exact λz=>nomatch z
    have hd8:upd (upd H' dl (.lst b2.reverse)) l (.lst b1) dl=some (.lst b2.reverse):=s8 _ _ A2;have hl8:upd (upd H' dl (.lst b2.reverse)) l (.lst b1) l=some (.lst b1):=A2;have hm8:upd (upd H' dl (.lst b2.reverse)) l (.lst b1) ml=some (.lst ms):=s8 _ _ (O2 hm (Ne.symm ndm));have o8:Same H (upd (upd H' dl (.lst b2.reverse)) l (.lst b1)):=λb o e=>s8 _ _ (O2 (sm b o e) (C1 e hdl0));have hS8:=hS2 _ o8 (by rw[hm8];exact λz=>nomatch z) wn8 (by rw[hd8];exact λz=>nomatch z);have nlS:¬S2 l:=λz=>by
     refine hS2 _ (λb o e=>O2 (sm b o e) (C1 e hdl0)) ?_ ?_ (by rw[A2];exact λz=>nomatch z) l z hl
     ·rw[O2 hm (Ne.symm ndm)];exact λz=>nomatch z
     ·obtain⟨o,ho⟩:=ne_none_iff_exists'.mp hwn;rw[O2 ho (Ne.symm ndw)];exact λz=>nomatch z
    generalize upd (upd H' dl (.lst b2.reverse)) l (.lst b1)=H8 at s8 t8 hd8 hl8 hm8 o8 wn8 hS8⊢;refine⟨_,rfl,.inl ⟨rfl,_,SqL.of hd8⟩,_,rfl,fm,dm,nm,spM D,2,rfl,FM,hr.mono (by decide),km,bm,_,rfl,_,rfl,S2,n,u,l,b1,rfl,D.vm t8 hu',hszn,hl8,nlS,hS8,hb1.imp λa b h=>D.rm t8 h,λy H9 s9 hy=> ?_⟩;have hb2l:=hb2.len;have hrl:=D.len_le r;refine⟨dl,_,_,rfl,rfl,s9 _ _ hd8, ?_, ?_⟩
    ·rw[length_reverse];simp only[map_cons,sum_cons]at hRs2;omega
    have t9:Kp S2 H9 (upd H9 dl (.lst (b2.reverse++ [y]))):=.upd dS (s9 _ _ hd8) _;have t89:Kp S2 H' (upd H9 dl (.lst (b2.reverse++ [y]))):=(t8.trans (.of s9)).trans t9;have wn9:upd H9 dl (.lst (b2.reverse++ [y])) wl≠none:=by
     obtain⟨o,ho⟩:=ne_none_iff_exists'.mp wn8;rw[O2 (s9 _ _ ho) (Ne.symm ndw)];exact λz=>nomatch z
    refine⟨n::r,y::b2,_,_,_,_,rfl,λb o e=>O2 (s9 _ _ (o8 b o e)) (C1 e hdl0),O2 (s9 _ _ hm8) (Ne.symm ndm),wn9,hN.imp λa b h=>h.mono t89, ?_,.cons (D.rm t9 hy) (hb2.imp λa b h=>D.rm t89 h), ?_⟩
    ·rw[reverse_cons];exact A2
    ·have e2:N.length - (i+1)=ms.length - 1 - i:=by omega
     rw[e2];exact hRb
  ·rintro σ H' ⟨W,us,y1,y2,y3,y4,rfl,sm,hm,hwn,hN,hd,hW,hRi⟩;rw[<-hms,Nat.sub_self,List.take_zero]at hRi;cases hRi.first
   cases hW with
   | @cons _ y _ us hy hrest=>
    cases hrest;refine⟨_,rfl,.inl ⟨rfl,_,SqL.of hd⟩,dl,_,_,rfl,rfl,hd,rfl, ?_⟩;exact q y _ (λb o e=>O2 (sm b o e) (C1 e hdl0)) (D.rw' (λa ha=> .inl (sub2 a ha)) (D.rm (.upd dS hd _) hy))
end
end _B
namespace _N
open PySem _L
seal PE PT PW PA PS PSs PTs PI PG PGs PO
noncomputable def top(i:Nat):Stmt:=PySem.Challenge.pw_speakmill_k41_one_state_leads_on.main.body.getD i (.Pass ⟨0,0,0,0⟩)
noncomputable abbrev s_two_told:Stmt:=top 2
noncomputable abbrev s_quotient_told:Stmt:=top 3
noncomputable abbrev s_outcome:Stmt:=top 4
noncomputable abbrev s_bounded:Stmt:=top 5
noncomputable abbrev QI:List Str:=["sign","a","b"]
theorem sc_two_told:FnScope QI UA (B3 s_two_told):=fS
noncomputable abbrev GW:List Str:=["a","b"]
theorem sc_quotient_told:FnScope GW ["a","b"] (B3 s_quotient_told):=fS
noncomputable abbrev TK:List Str:=["sign","a","b"]
theorem sc_outcome:FnScope TK UA (B3 s_outcome):=fS
noncomputable abbrev SY:List Str:=["number"]
theorem sc_bounded:FnScope SY ["number"] (B3 s_bounded):=fS
structure NoG (mg:Str->Option Value):Prop where
 len_:mg "len"=none
 min_:mg "min"=none
 abs_:mg "abs"=none
 isinstance_:mg "isinstance"=none
 tuple_:mg "tuple"=none
 int_:mg "int"=none
 bool_:mg "bool"=none
theorem A1{H:Hp}{p:Addr}(h:H p=none)(o:HO):Same H (upd H p o):=λb u q=>by rw[B9 (C1 q h)];exact q
theorem ifT{c A B:Prop}[Decidable c](h:c)(a:A):if c then A else B:=by rw[if_pos h];exact a
theorem ifF{c A B:Prop}[Decidable c](h:¬c)(b:B):if c then A else B:=by rw[if_neg h];exact b
noncomputable abbrev GR:Int:=10000000000000000000000000000000000000000
noncomputable def bnd(n:Int):List V:=if n>GR\/n< -GR then [.str "refused",.str "great"]else [.str "value",.int n]
noncomputable def quo(a b:Int):List V:=if b=0 then [.str "refused",.str "nought"]else [.str "value",.int (a.fdiv b)]
theorem C5:(2:Nat)<=sizeLine:=by decide
section
variable{P:Program}{w:World}{K:FZ}{mg:Str->Option Value}{base:Heap}{f:Addr}{fd:FuncData}{AZ JI JK:Addr}{BB JH JJ:FuncData}{tG:Tok}
inductive spQuoW(vs:List V)(H:Hp)(Q:VK):Prop
 |mk:∀a b:Int,(vs=[.int a,.int b])->(b.natAbs.log2<9000)->(∀r H',Same H H'->H' r=some (.tup (quo a b))->Q (.ref r) H')->spQuoW vs H Q
noncomputable def azZ:Sp:=λvs H Q _=>spQuoW vs H Q
theorem ok_quotient_told(F:Fun K "quotient_told" "quotient_told" s_quotient_told f fd):FnOk P w K mg base CX0 1 f fd ["a","b"] azZ:=by
 refine F.ok sc_quotient_told (λvs H Q E h=> ?_) (λcdv A outer s H vs Q E hr h=> ?_)
 ·obtain⟨a,b,rfl,_⟩:=h;rfl
 obtain⟨a,b,rfl,hb,q⟩:=h;have nd:=sc_quotient_told.nd;have hu:=hr.units0;refine⟨_,(A6 (B7 (B0 (kEq (K:=K) hu) (pv 1) A3 rfl) (A9 (B4 (A8 (A0 A7 (A0 A7 A5))))) B6)
   (A9 (B4 (A8 (A0 A7 (A0 (B5 C0 (pv 0) (pv 1)) A5)))))), ?_⟩
 refine⟨_,rfl,.inl ⟨rfl,_,rfl,F9 (λe=> ?_) (λe=> ?_)⟩⟩
 ·have e':b=0:=by have:=of_decide_eq_true e;injection this
  refine⟨C5,λp hp=>q p _ (A1 hp _) ?_⟩;rw[A2,quo,if_pos e']
 ·have e':b≠0:=λz=>e (by rw[z];rfl);refine⟨_,rfl,_,rfl,_,_,rfl,rfl,⟨e',hb⟩,C5,λp hp=>q p _ (A1 hp _) ?_⟩;rw[A2,quo,if_neg e']
inductive spOutW (vs:List V) (H:Hp) (Q:VK):Prop
 |mk:∀(s:Str) (a b:Int),(vs=[.str s,.int a,.int b])->((s="+"/\Q (.int (a+b)) H\/s="-"/\Q (.int (a - b)) H\/s="*"/\IntMulOk a b/\Q (.int (a*b)) H))->spOutW vs H Q
noncomputable def aNZ:Sp:=λvs H Q _=>spOutW vs H Q
theorem ok_outcome(F:Fun K "outcome" "outcome" s_outcome f fd):FnOk P w K mg base CX0 1 f fd UA aNZ:=by
 refine F.ok sc_outcome (λvs H Q E h=> ?_) (λcdv A outer s H vs Q E hr h=> ?_)
 ·obtain⟨s,a,b,rfl,_⟩:=h;rfl
 obtain⟨s,a,b,rfl,q⟩:=h;have nd:=sc_outcome.nd;have hu:=hr.units0;refine⟨_,(A6 (B7 (B0 (kEq (K:=K) hu) (pv 0) A7 rfl) (A9 (B4 (B5 AC (pv 1) (pv 2)))) B6)
   (A6 (B7 (B0 (kEq (K:=K) hu) (pv 0) A7 rfl) (A9 (B4 (B5 T4 (pv 1) (pv 2)))) B6)
   (A9 (B4 (B5 U1 (pv 1) (pv 2)))))), ?_⟩
 rcases q with⟨rfl,q⟩|⟨rfl,q⟩|⟨rfl,hm,q⟩
 ·exact⟨_,rfl,.inl ⟨rfl,_,rfl,ifT (by decide) ⟨_,rfl,_,rfl,.inl ⟨_,_,rfl,rfl,q⟩⟩⟩⟩
 ·exact⟨_,rfl,.inl ⟨rfl,_,rfl,ifF (by decide) ⟨_,rfl,.inl ⟨rfl,_,rfl,ifT (by decide) ⟨_,rfl,_,rfl,_,_,rfl,rfl,q⟩⟩⟩⟩⟩
 ·exact⟨_,rfl,.inl ⟨rfl,_,rfl,ifF (by decide) ⟨_,rfl,.inl ⟨rfl,_,rfl,ifF (by decide) ⟨_,rfl,_,rfl,_,_,rfl,rfl,hm,q⟩⟩⟩⟩⟩
inductive spBndW (vs:List V) (H:Hp) (Q:VK):Prop
 |mk:∀n:Int,(vs=[.int n])->(∀r H',Same H H'->H' r=some (.tup (bnd n))->Q (.ref r) H')->spBndW vs H Q
noncomputable def aJZ:Sp:=λvs H Q _=>spBndW vs H Q
theorem ok_bounded(F:Fun K "bounded" "bounded" s_bounded f fd)(B:NoG mg)(m_GREATEST:mg "GREATEST"=some (.int GR tG)):FnOk P w K mg base CX0 1 f fd ["number"] aJZ:=by
 refine F.ok sc_bounded (λvs H Q E h=> ?_) (λcdv A outer s H vs Q E hr h=> ?_)
 ·obtain⟨n,rfl,_⟩:=h;rfl
 obtain⟨n,rfl,q⟩:=h;have nd:=sc_bounded.nd;have hu:=hr.units0;refine⟨_,(A6 (B7 (B0 BF (J7 MN rfl B.abs_ WD (A0 (pv 0) A5)) (CJ (v:=.int 10000000000000000000000000000000000000000) rfl m_GREATEST ⟨_,rfl⟩) rfl) (A9 (B4 (A8 (A0 A7 (A0 A7 A5))))) B6)
   (A9 (B4 (A8 (A0 A7 (A0 (pv 0) A5)))))), ?_⟩
 refine⟨_,rfl,_,rfl,_,_,rfl,rfl,_,rfl,F9 (λe=> ?_) (λe=> ?_)⟩
 ·have e1:GR<(if n<0 then -n else n):=of_decide_eq_true e;have e':n>GR\/n< -GR:=by
   split at e1
   ·exact .inr (by omega)
   ·exact .inl (by omega)
  refine⟨C5,λp hp=>q p _ (A1 hp _) ?_⟩;rw[A2,bnd,if_pos e']
 ·have e1:¬GR<(if n<0 then -n else n):=λz=>e (decide_eq_true z);have e':¬(n>GR\/n< -GR):=by
   split at e1<;>omega
  refine⟨_,rfl,C5,λp hp=>q p _ (A1 hp _) ?_⟩;rw[A2,bnd,if_neg e']
noncomputable def sg:Nat->Str
 |0=> "+"|1=> "-"|2=> "*"|3=> "<"|4=> "="|_=> "/"
noncomputable def tw:Nat->Int->Int->List V
 |0,a,b=>bnd (a+b)|1,a,b=>bnd (a - b)|2,a,b=>bnd (a*b)|3,a,b=> [.str "value",.bl (decide (a<b))]|4,a,b=> [.str "value",.bl (decide (V.int a=V.int b))]|_,a,b=>quo a b
inductive spTwoW (vs:List V) (H:Hp) (Q:VK):Prop
 |mk:∀(k:Nat) (a b:Int),(vs=[.str (sg k),.int a,.int b])->(k<6)->(IntMulOk a b)->(b.natAbs.log2<9000)->(∀r H',Same H H'->H' r=some (.tup (tw k a b))->Q (.ref r) H')->spTwoW vs H Q
noncomputable def spTwo:Sp:=λvs H Q _=>spTwoW vs H Q
theorem ok_two_told(F:Fun K "two_told" "two_told" s_two_told f fd)
  (W3:Cn P w K mg base CX0 1 "quotient_told" ["a","b"] azZ)
  (FD:Cn P w K mg base CX0 1 "outcome" UA aNZ)
  (FC:Cn P w K mg base CX0 1 "bounded" ["number"] aJZ):
  FnOk P w K mg base CX0 2 f fd UA spTwo:=by
 refine F.ok sc_two_told (λvs H Q E h=> ?_) (λcdv A outer s H vs Q E hr h=> ?_)
 ·obtain⟨k,a,b,rfl,_⟩:=h;rfl
 obtain⟨k,a,b,rfl,hk,hm,hb,q⟩:=h;have nd:=sc_two_told.nd;have hu:=hr.units0;refine⟨_,(A6 (B7 (B0 (kEq (K:=K) hu) (pv 0) A7 rfl) (A9 (B4 (A8 (A0 A7 (A0 (N4 GL (pv 1) (pv 2) rfl) A5))))) B6)
   (A6 (B7 (B0 (kEq (K:=K) hu) (pv 0) A7 rfl) (A9 (B4 (A8 (A0 A7 (A0 (N4 (kEq (K:=K) hu) (pv 1) (pv 2) rfl) A5))))) B6)
   (A6 (B7 (B0 (kEq (K:=K) hu) (pv 0) A7 rfl) (A9 (B4 (cC W3 hr (A0 (pv 1) (A0 (pv 2) A5))))) B6)
   (A9 (B4 (cC FC hr (A0 (cC FD hr (A0 (pv 0) (A0 (pv 1) (A0 (pv 2) A5)))) A5))))))), ?_⟩
 have hk':k=0\/k=1\/k=2\/k=3\/k=4\/k=5:=by omega
 rcases hk' with rfl|rfl|rfl|rfl|rfl|rfl
 ·exact⟨_,rfl,.inl ⟨rfl,_,rfl,ifF (by decide) ⟨_,rfl,.inl ⟨rfl,_,rfl,ifF (by decide) ⟨_,rfl,.inl ⟨rfl,_,rfl,ifF (by decide)
   ⟨_,rfl,_,rfl,_,rfl,_,_,_,rfl,.inl ⟨rfl,_,rfl,q⟩⟩⟩⟩⟩⟩⟩⟩
 ·exact⟨_,rfl,.inl ⟨rfl,_,rfl,ifF (by decide) ⟨_,rfl,.inl ⟨rfl,_,rfl,ifF (by decide) ⟨_,rfl,.inl ⟨rfl,_,rfl,ifF (by decide)
   ⟨_,rfl,_,rfl,_,rfl,_,_,_,rfl,.inr (.inl ⟨rfl,_,rfl,q⟩)⟩⟩⟩⟩⟩⟩⟩
 ·exact⟨_,rfl,.inl ⟨rfl,_,rfl,ifF (by decide) ⟨_,rfl,.inl ⟨rfl,_,rfl,ifF (by decide) ⟨_,rfl,.inl ⟨rfl,_,rfl,ifF (by decide)
   ⟨_,rfl,_,rfl,_,rfl,_,_,_,rfl,.inr (.inr ⟨rfl,hm,_,rfl,q⟩)⟩⟩⟩⟩⟩⟩⟩
 ·exact⟨_,rfl,.inl ⟨rfl,_,rfl,ifT (by decide) ⟨_,rfl,_,rfl,_,_,rfl,rfl,C5,λp hp=>q p _ (A1 hp _) A2⟩⟩⟩
 ·exact⟨_,rfl,.inl ⟨rfl,_,rfl,ifF (by decide) ⟨_,rfl,.inl ⟨rfl,_,rfl,ifT (by decide) ⟨_,rfl,_,rfl,.inl ⟨rfl,C5,λp hp=>q p _ (A1 hp _) A2⟩⟩⟩⟩⟩⟩
 ·exact⟨_,rfl,.inl ⟨rfl,_,rfl,ifF (by decide) ⟨_,rfl,.inl ⟨rfl,_,rfl,ifF (by decide) ⟨_,rfl,.inl ⟨rfl,_,rfl,ifT (by decide)
   ⟨_,rfl,_,rfl,_,_,rfl,hb,q⟩⟩⟩⟩⟩⟩⟩
end
end _N
namespace _G
open PySem
inductive Kd where
 |num|tru|lst (k:Kd)|fn (a b:Kd)
inductive Tm where
 |nil|cons (a r:Tm)|num (n:Int)|tru (b:Bool)|non|name (z:Str)|fn (z:Str) (b:Tm)|two (s:Str) (a b:Tm)|one (w:Str) (a:Tm)|ite (c a b:Tm)|let_ (z:Str) (a b:Tm)|do_ (f a:Tm)|call (z:Str) (as:Tm)
inductive Vl where
 |int (n:Int)|bl (b:Bool)|lst (r:Vl)|fn (z:Str) (b:Tm) (e:Vl)|nil|cons (a r:Vl)|bind (e:Vl) (z:Str) (a:Vl)
noncomputable def row:Tm->List Tm
 | .cons a r=>a::row r
 |_=> []
noncomputable def look(z:Str):Vl->Option Vl
 | .bind e y a=>if y=z then some a else look z e
 |_=>none
noncomputable def L7:Vl->Nat
 | .cons _ r=>L7 r+1
 | .bind e _ _=>L7 e+1
 |_=>0
inductive Out where
 |val (v:Vl)|ref (w:Str)
noncomputable abbrev GR:Int:=10000000000000000000000000000000000000000
noncomputable def HY(n:Int):Out:=if n>GR\/n< -GR then .ref "great"else .val (.int n)
noncomputable def sg:Nat->Str
 |0=> "+"|1=> "-"|2=> "*"|3=> "<"|4=> "="|_=> "/"
noncomputable def tw:Nat->Int->Int->Out
 |0,a,b=>HY (a+b)|1,a,b=>HY (a - b)|2,a,b=>HY (a*b)|3,a,b=> .val (.bl (decide (a<b)))|4,a,b=> .val (.bl (decide (a=b)))|_,a,b=>if b=0 then .ref "nought"else .val (.int (a.fdiv b))
inductive Two:Str->Vl->Vl->Out->Prop
 |num {k a b}:k<6->Two (sg k) (.int a) (.int b) (tw k a b)
 |cons {a r}:Two ":" a (.lst r) (.val (.lst (.cons a r)))
inductive One:Str->Vl->Out->Prop
 |not {b}:One "not" (.bl b) (.val (.bl (!b)))
 |emptyT:One "empty" (.lst .nil) (.val (.bl true))
 |emptyF {a r}:One "empty" (.lst (.cons a r)) (.val (.bl false))
 |headN:One "head" (.lst .nil) (.ref "head")
 |head {a r}:One "head" (.lst (.cons a r)) (.val a)
 |tailN:One "tail" (.lst .nil) (.ref "tail")
 |tail {a r}:One "tail" (.lst (.cons a r)) (.val (.lst r))
inductive Fr where
 |two (s:Str) (t:Tm) (e:Vl)|then_ (s:Str) (a:Vl)|one (w:Str)|ite (a b:Tm) (e:Vl)|let_ (z:Str) (b:Tm) (e:Vl)|do_ (a:Tm) (e:Vl)|with_ (f:Vl)|call (z:Str) (vs:List Vl) (ts:List Tm) (e:Vl)|back
inductive Fo where
 |term (t:Tm) (e:Vl)|val (v:Vl)
structure Sta where
 fo:Fo
 pile:List Fr
 calls:Int
 deep:Int
inductive Res where
 |st (s:Sta)|dry|deep|refd (w:Str)|value (v:Vl)
structure Dn where
 name:Str
 pars:List Str
 body:Tm
noncomputable def ZS(e:Vl)(ns:List Str)(vs:List Vl):Vl:=(ns.zip vs).foldl (λe x=> .bind e x.1 x.2) e
noncomputable abbrev env(ns:List Str)(vs:List Vl):Vl:=ZS .nil ns vs
noncomputable def FT(most:Int)(b:Tm)(e:Vl)(r:List Fr)(calls deep:Int):Res:=
 if most<=calls then .dry else if 60<=deep then .deep else .st ⟨.term b e,.back::r,calls+1,deep+1⟩
noncomputable def out(o:Out)(r:List Fr)(c d:Int):Res:=match o with
 | .val v=> .st ⟨.val v,r,c,d⟩
 | .ref w=> .refd w
inductive Once (e:Vl):Tm->Vl->Prop
 |num {n}:Once e (.num n) (.int n)
 |tru {b}:Once e (.tru b) (.bl b)
 |non:Once e .non (.lst .nil)
 |name {z v}:look z e=some v->Once e (.name z) v
 |fn {z b}:Once e (.fn z b) (.fn z b e)
inductive Wait (e:Vl):Tm->Tm->Fr->Prop
 |two {s a b}:Wait e (.two s a b) a (.two s b e)
 |one {w a}:Wait e (.one w a) a (.one w)
 |ite {c a b}:Wait e (.ite c a b) c (.ite a b e)
 |let_ {z a b}:Wait e (.let_ z a b) a (.let_ z b e)
 |do_ {f a}:Wait e (.do_ f a) f (.do_ a e)
 |call {z a r}:Wait e (.call z (.cons a r)) a (.call z [] (row r) e)
inductive ToT:Fr->Vl->Fo->List Fr->Prop
 |ite {a b e c}:ToT (.ite a b e) (.bl c) (.term (if c then a else b) e) []
 |let_ {z b e v}:ToT (.let_ z b e) v (.term b (.bind e z v)) []
 |two {s t e v}:ToT (.two s t e) v (.term t e) [.then_ s v]
 |do_ {t e v}:ToT (.do_ t e) v (.term t e) [.with_ v]
 |call {z vs t ts e v}:ToT (.call z vs (t::ts) e) v (.term t e) [.call z (vs++ [v]) ts e]
inductive Stp (D:List Dn) (most:Int):Sta->Res->Prop
 |once {t e v pl c d}:Once e t v->Stp D most ⟨.term t e,pl,c,d⟩ (.st ⟨.val v,pl,c,d⟩)
 |call0 {z dn e pl c d}:(D.find? λx=>x.name==z)=some dn->dn.pars=[]->Stp D most ⟨.term (.call z .nil) e,pl,c,d⟩ (FT most dn.body .nil pl c d)
 |wait {t e t1 fr pl c d}:Wait e t t1 fr->Stp D most ⟨.term t e,pl,c,d⟩ (.st ⟨.term t1 e,fr::pl,c,d⟩)
 |value {v c d}:Stp D most ⟨.val v,[],c,d⟩ (.value v)
 |back {v pl c d}:Stp D most ⟨.val v,.back::pl,c,d⟩ (.st ⟨.val v,pl,c,d - 1⟩)
 |one {w v o pl c d}:One w v o->Stp D most ⟨.val v,.one w::pl,c,d⟩ (out o pl c d)
 |then_ {s a v o pl c d}:Two s a v o->Stp D most ⟨.val v,.then_ s a::pl,c,d⟩ (out o pl c d)
 |with_ {z b e v pl c d}:Stp D most ⟨.val v,.with_ (.fn z b e)::pl,c,d⟩ (FT most b (.bind e z v) pl c d)
 |call {z vs e v dn pl c d}:(D.find? λx=>x.name==z)=some dn->dn.pars.length=vs.length+1->Stp D most ⟨.val v,.call z vs [] e::pl,c,d⟩ (FT most dn.body (env dn.pars (vs++ [v])) pl c d)
 |to {fr v fo fs pl c d}:ToT fr v fo fs->Stp D most ⟨.val v,fr::pl,c,d⟩ (.st ⟨fo,fs++pl,c,d⟩)
noncomputable abbrev Fs:=List (Str×List Kd×Kd)
noncomputable abbrev Cx:=Str->Option Kd
noncomputable def up(g:Cx)(z:Str)(k:Kd):Cx:=λy=>if z=y then some k else g y
inductive Kx where
 |t (k:Kd)|r (ks:List Kd)
inductive Ty (F:Fs):Cx->Tm->Kx->Prop
 |nil {g}:Ty F g .nil (.r [])
 |cons {g a r k ks}:Ty F g a (.t k)->Ty F g r (.r ks)->Ty F g (.cons a r) (.r (k::ks))
 |num {g n}: -GR<=n->n<=GR->Ty F g (.num n) (.t .num)
 |tru {g b}:Ty F g (.tru b) (.t .tru)
 |non {g k}:Ty F g .non (.t (.lst k))
 |name {g z k}:g z=some k->Ty F g (.name z) (.t k)
 |fn {g z a b k}:Ty F (up g z a) b (.t k)->Ty F g (.fn z b) (.t (.fn a k))
 |two {g k a b}:k<6->Ty F g a (.t .num)->Ty F g b (.t .num)->Ty F g (.two (sg k) a b) (.t (if k=3\/k=4 then .tru else .num))
 |cat {g a b k}:Ty F g a (.t k)->Ty F g b (.t (.lst k))->Ty F g (.two ":" a b) (.t (.lst k))
 |not {g a}:Ty F g a (.t .tru)->Ty F g (.one "not" a) (.t .tru)
 |empty {g a k}:Ty F g a (.t (.lst k))->Ty F g (.one "empty" a) (.t .tru)
 |head {g a k}:Ty F g a (.t (.lst k))->Ty F g (.one "head" a) (.t k)
 |tail {g a k}:Ty F g a (.t (.lst k))->Ty F g (.one "tail" a) (.t (.lst k))
 |ite {g c a b k}:Ty F g c (.t .tru)->Ty F g a (.t k)->Ty F g b (.t k)->Ty F g (.ite c a b) (.t k)
 |let_ {g z a b k k'}:Ty F g a (.t k')->Ty F (up g z k') b (.t k)->Ty F g (.let_ z a b) (.t k)
 |do_ {g f a k k'}:Ty F g f (.t (.fn k' k))->Ty F g a (.t k')->Ty F g (.do_ f a) (.t k)
 |call {g z as ks k}:F.lookup z=some (ks,k)->Ty F g as (.r ks)->Ty F g (.call z as) (.t k)
inductive Ix where
 |k (k:Kd)|row (k:Kd)|env (g:List (Str×Kd))
inductive W (F:Fs) (N:Nat):Vl->Ix->Prop
 |int {n}: -GR<=n->n<=GR->W F N (.int n) (.k .num)
 |bl {b}:W F N (.bl b) (.k .tru)
 |lst {r k}:W F N r (.row k)->W F N (.lst r) (.k (.lst k))
 |fn {z b e g gl a k}:W F N e (.env gl)->(∀y q,g y=some q->gl.lookup y=some q)->Ty F (up g z a) b (.t k)->W F N (.fn z b e) (.k (.fn a k))
 |nil {k}:W F N .nil (.row k)
 |cons {a r k}:W F N a (.k k)->W F N r (.row k)->L7 r+1<=N->W F N (.cons a r) (.row k)
 |none:W F N .nil (.env [])
 |bind {e g z a k}:W F N e (.env g)->W F N a (.k k)->L7 e+1<=N->W F N (.bind e z a) (.env ((z,k)::g))
noncomputable abbrev W1(F:Fs)(N:Nat)(v:Vl)(k:Kd):Prop:=W F N v (.k k)
theorem W.mono{F:Fs}{N M:Nat}(h:N<=M){v:Vl}{x:Ix}(z:W F N v x):W F M v x:=by
 induction z with
 |int h1 h2=>exact .int h1 h2
 |bl=>exact .bl
 |lst _ ih=>exact .lst ih
 |fn _ hg ht ih=>exact .fn ih hg ht
 |nil=>exact .nil
 |cons _ _ hl i1 i2=>exact .cons i1 i2 (Nat.le_trans hl h)
 |none=>exact .none
 |bind _ _ hl i1 i2=>exact .bind i1 i2 (Nat.le_trans hl h)
theorem W.vl{F:Fs}{N:Nat}{v:Vl}{x:Ix}(z:W F N v x):L7 v<=N:=by
 cases z<;>first|exact zero_le _|assumption
theorem W.look{F:Fs}{N:Nat}{e:Vl}{g:List (Str×Kd)}(h:W F N e (.env g)){z:Str}{k:Kd}(hz:g.lookup z=some k):∃v,_G.look z e=some v/\W1 F N v k:=by
 induction g generalizing e with
 |nil=>cases hz
 |cons p g ih=>
  obtain⟨y,k'⟩:=p;cases h with
  | @bind e' _ _ a _ he ha _=>
   rw[lookup_cons]at hz;unfold _G.look;by_cases c:y=z
   ·subst c;simp only[beq_self_eq_true]at hz;cases hz;exact⟨a,if_pos rfl,ha⟩
   ·have c':(z==y)=false:=by simpa using λe=>c e.symm
    rw[c']at hz;obtain⟨v,h1,h2⟩:=ih he hz;exact⟨v,by rw[if_neg c];exact h1,h2⟩
theorem W.env{F:Fs}{N:Nat}:∀ {ns:List Str} {vs:List Vl} {ks:List Kd} {e:Vl} {g:List (Str×Kd)},W F N e (.env g)->L7 e+vs.length<=N->ns.length=ks.length->_B.All2 (W1 F N) vs ks->W F N (ZS e ns vs) (.env ((ns.zip ks).reverse++g))
 | [],_,[],e,g,h,_,_,a=>by cases a;exact h
 |z::ns,v::vs,k::ks,e,g,h,hl,hn,a=>by
  cases a with
  |cons a1 a2=>
   have h1:=W.env (ns:=ns) (.bind (z:=z) h a1 (by simp only[length_cons]at hl;omega)) (by show L7 e+1+vs.length<=N;simp only[length_cons]at hl;omega) (by simpa using hn) a2;simp only[List.zip_cons_cons,reverse_cons,List.append_assoc];exact h1
 | [],_,_::_,_,_,_,_,hn,_=>by simp at hn
 |_::_,_,[],_,_,_,_,hn,_=>by simp at hn
theorem RQ{a b:Int}(h1: -GR<=a)(h2:a<=GR)(hb:b≠0): -GR<=a.fdiv b/\a.fdiv b<=GR:=by
 have key:(a.fdiv b).natAbs<=a.natAbs:=by
  rcases Int.lt_or_gt_of_ne hb with h|h
  ·rw[<-Int.neg_fdiv_neg,Int.fdiv_eq_ediv_of_nonneg _ (by omega)];have:=Int.natAbs_ediv_le_natAbs (-a) (-b)
   rwa [Int.natAbs_neg]at this
  ·rw[Int.fdiv_eq_ediv_of_nonneg _ (by omega)];exact Int.natAbs_ediv_le_natAbs a b
 generalize a.fdiv b=q at key⊢;omega
noncomputable def OTy(F:Fs)(N:Nat)(k:Kd):Out->Prop
 | .val v=>W1 F N v k
 | .ref _=>True
theorem QL{F:Fs}{N:Nat}(n:Int):OTy F N .num (HY n):=by
 unfold HY;split
 ·trivial
 ·rename_i h;exact W.int (by omega) (by omega)
theorem cxZ{F:Fs}{N k:Nat}{a b:Int}(hk:k<6)(h1: -GR<=a)(h2:a<=GR):OTy F N (if k=3\/k=4 then .tru else .num) (tw k a b):=by
 match k,hk with
 |0,_=>exact QL _
 |1,_=>exact QL _
 |2,_=>exact QL _
 |3,_=>exact W.bl
 |4,_=>exact W.bl
 |5,_=>
  show OTy F N .num (if b=0 then .ref "nought"else .val (.int (a.fdiv b)));split
  ·trivial
  ·rename_i h;have:=RQ h1 h2 h;exact W.int this.1 this.2
inductive ETy (F:Fs) (N:Nat) (e:Vl) (g:Cx):Prop
 |mk:∀gl,(W F N e (.env gl))->(∀y q,g y=some q->gl.lookup y=some q)->ETy F N e g
theorem ETy.mono{F:Fs}{N M:Nat}(h:N<=M){e:Vl}{g:Cx}:ETy F N e g->ETy F M e g:=λ⟨gl,a,b⟩=>⟨gl,a.mono h,b⟩
theorem ETy.look{F:Fs}{N:Nat}{e:Vl}{g:Cx}(h:ETy F N e g){z:Str}{k:Kd}(hz:g z=some k):∃v,_G.look z e=some v/\W1 F N v k:=let⟨_,a,b⟩:=h;a.look (b _ _ hz)
theorem ETy.bind{F:Fs}{N:Nat}{e v:Vl}{g:Cx}{k:Kd}(h:ETy F N e g)(hv:W1 F N v k)(z:Str):ETy F (N+1) (.bind e z v) (up g z k):=by
 obtain⟨gl,a,b⟩:=h;refine⟨(z,k)::gl,.bind (a.mono (le_succ _)) (hv.mono (le_succ _)) (succ_le_succ a.vl),λy q e=> ?_⟩;unfold up at e;rw[lookup_cons];by_cases c:z=y
 ·subst c;rw[if_pos rfl]at e;cases e;simp
 ·rw[if_neg c]at e;have c':(y==z)=false:=by simpa using λe=>c e.symm
  rw[c'];exact b _ _ e
inductive FTy (F:Fs) (N:Nat):Fr->Kd->Kd->Prop
 |two {k t e g}:k<6->Ty F g t (.t .num)->ETy F N e g->FTy F N (.two (sg k) t e) .num (if k=3\/k=4 then .tru else .num)
 |cat {t e g k}:Ty F g t (.t (.lst k))->ETy F N e g->FTy F N (.two ":" t e) k (.lst k)
 |then_ {k a}:k<6->W1 F N a .num->FTy F N (.then_ (sg k) a) .num (if k=3\/k=4 then .tru else .num)
 |thenC {a k}:W1 F N a k->FTy F N (.then_ ":" a) (.lst k) (.lst k)
 |not:FTy F N (.one "not") .tru .tru
 |empty {k}:FTy F N (.one "empty") (.lst k) .tru
 |head {k}:FTy F N (.one "head") (.lst k) k
 |tail {k}:FTy F N (.one "tail") (.lst k) (.lst k)
 |ite {a b e g k}:Ty F g a (.t k)->Ty F g b (.t k)->ETy F N e g->FTy F N (.ite a b e) .tru k
 |let_ {z b e g k k'}:Ty F (up g z k') b (.t k)->ETy F N e g->FTy F N (.let_ z b e) k' k
 |do_ {a e g k k'}:Ty F g a (.t k')->ETy F N e g->FTy F N (.do_ a e) (.fn k' k) k
 |with_ {f k k'}:W1 F N f (.fn k' k)->FTy F N (.with_ f) k' k
 |call {z vs ts e g ks k0 kt k}:F.lookup z=some (ks++k0::kt,k)->_B.All2 (W1 F N) vs ks->_B.All2 (λt k=>Ty F g t (.t k)) ts kt->ETy F N e g->FTy F N (.call z vs ts e) k0 k
 |back {k}:FTy F N .back k k
theorem FTy.mono{F:Fs}{N M:Nat}(h:N<=M){f:Fr}{a b:Kd}(z:FTy F N f a b):FTy F M f a b:=by
 cases z with
 |two hk ht he=>exact .two hk ht (he.mono h)
 |cat ht he=>exact .cat ht (he.mono h)
 |then_ hk ha=>exact .then_ hk (ha.mono h)
 |thenC ha=>exact .thenC (ha.mono h)
 |not=>exact .not
 |empty=>exact .empty
 |head=>exact .head
 |tail=>exact .tail
 |ite h1 h2 he=>exact .ite h1 h2 (he.mono h)
 |let_ h1 he=>exact .let_ h1 (he.mono h)
 |do_ h1 he=>exact .do_ h1 (he.mono h)
 |with_ hf=>exact .with_ (hf.mono h)
 |call hf hv ht he=>exact .call hf (hv.imp λ_ _ x=>x.mono h) ht (he.mono h)
 |back=>exact .back
inductive PTy (F:Fs) (N:Nat) (kl:Kd):List Fr->Kd->Prop
 |nil:PTy F N kl [] kl
 |cons {f r a b}:FTy F N f a b->PTy F N kl r b->PTy F N kl (f::r) a
theorem PTy.mono{F:Fs}{N M:Nat}(h:N<=M){kl:Kd}{r:List Fr}{k:Kd}(z:PTy F N kl r k):PTy F M kl r k:=by
 induction z with
 |nil=>exact .nil
 |cons hf _ ih=>exact .cons (hf.mono h) ih
inductive FoTy (F:Fs) (N:Nat):Fo->Kd->Prop
 |term {t e g k}:Ty F g t (.t k)->ETy F N e g->FoTy F N (.term t e) k
 |val {v k}:W1 F N v k->FoTy F N (.val v) k
structure StTy (F:Fs) (N:Nat) (kl:Kd) (s:Sta):Prop where
 ex:∃k,FoTy F N s.fo k/\PTy F N kl s.pile k
 len:s.pile.length<=N
structure DTy (F:Fs) (D:List Dn):Prop where
 of:∀z ks k,F.lookup z=some (ks,k)->ks.length<=4/\∃dn g,(D.find? λx=>x.name==z)=some dn/\dn.pars.length=ks.length/\Ty F g dn.body (.t k)/\∀y q,g y=some q->(dn.pars.zip ks).reverse.lookup y=some q
noncomputable def RTy(F:Fs)(N:Nat)(kl:Kd):Res->Prop
 | .st s=>StTy F N kl s
 | .value v=>W1 F N v kl
 |_=>True
theorem MF{F:Fs}{N:Nat}{kl k:Kd}{most:Int}{b:Tm}{e:Vl}{g:Cx}{r:List Fr}{c d:Int}(hb:Ty F g b (.t k))(he:ETy F N e g)(hr:PTy F N kl r k)(hl:r.length+1<=N):RTy F N kl (FT most b e r c d):=by
 unfold FT;split
 ·trivial
 split
 ·trivial
 exact⟨⟨k,.term hb he,.cons .back hr⟩,by simpa using hl⟩
theorem ED{F:Fs}{N:Nat}{kl k:Kd}{o:Out}{r:List Fr}{c d:Int}(ho:OTy F N k o)(hr:PTy F N kl r k)(hl:r.length<=N):RTy F N kl (out o r c d):=by
 cases o with
 |val v=>exact⟨⟨k,.val ho,hr⟩,hl⟩
 |ref w=>trivial
theorem WV{F:Fs}{g:Cx}:∀ {as:Tm} {ks:List Kd},Ty F g as (.r ks)->_B.All2 (λt k=>Ty F g t (.t k)) (row as) ks
 |_,_,.nil=> .nil
 |_,_,.cons h1 h2=> .cons h1 (WV h2)
noncomputable def Pr(D:List Dn)(most:Int)(F:Fs)(N:Nat)(kl:Kd)(s:Sta):Prop:=∃r,Stp D most s r/\RTy F (N+1) kl r
theorem CU{F:Fs}{N:Nat}{kl k k1:Kd}{D:List Dn}{most:Int}{t t1:Tm}{e:Vl}{g:Cx}{fr:Fr}{pl:List Fr}{c d:Int}(hp:PTy F N kl pl k)(hl:pl.length<=N)(he:ETy F N e g)(w:Wait e t t1 fr)(h1:Ty F g t1 (.t k1))(h2:FTy F N fr k1 k):Pr D most F N kl ⟨.term t e,pl,c,d⟩:=
 ⟨_,.wait w,⟨⟨_,.term h1 (he.mono (le_succ _)),.cons (h2.mono (le_succ _)) (hp.mono (le_succ _))⟩,succ_le_succ hl⟩⟩
theorem MZ{F:Fs}{N:Nat}{kl k:Kd}{D:List Dn}{most:Int}{t:Tm}{e v:Vl}{pl:List Fr}{c d:Int}(hp:PTy F N kl pl k)(hl:pl.length<=N)(o:Once e t v)(h1:W1 F N v k):Pr D most F N kl ⟨.term t e,pl,c,d⟩:=
 ⟨_,.once o,⟨⟨_,.val (h1.mono (le_succ _)),hp.mono (le_succ _)⟩,le_succ_of_le hl⟩⟩
theorem c6Z{F:Fs}{N:Nat}{kl k:Kd}{D:List Dn}{most:Int}{t:Tm}{e:Vl}{g:Cx}{pl:List Fr}{c d:Int}(hD:DTy F D)(ht:Ty F g t (.t k))(he:ETy F N e g)(hp:PTy F N kl pl k)(hl:pl.length<=N):Pr D most F N kl ⟨.term t e,pl,c,d⟩:=by
 cases ht with
 |num h1 h2=>exact MZ hp hl .num (.int h1 h2)
 |tru=>exact MZ hp hl .tru .bl
 |non=>exact MZ hp hl .non (.lst .nil)
 |name hz=>obtain⟨v,h1,h2⟩:=he.look hz;exact MZ hp hl (.name h1) h2
 |fn hb=>obtain⟨gl,h1,h2⟩:=he;exact MZ hp hl .fn (.fn h1 h2 hb)
 |two hk h1 h2=>exact CU hp hl he .two h1 (.two hk h2 he)
 |cat h1 h2=>exact CU hp hl he .two h1 (.cat h2 he)
 |not h1=>exact CU hp hl he .one h1 .not
 |empty h1=>exact CU hp hl he .one h1 .empty
 |head h1=>exact CU hp hl he .one h1 .head
 |tail h1=>exact CU hp hl he .one h1 .tail
 |ite h1 h2 h3=>exact CU hp hl he .ite h1 (.ite h2 h3 he)
 |let_ h1 h2=>exact CU hp hl he .let_ h1 (.let_ h2 he)
 |do_ h1 h2=>exact CU hp hl he .do_ h1 (.do_ h2 he)
 |call hz ha=>
  cases ha with
  |nil=>
   obtain⟨_,dn,g',h1,h2,h3,h4⟩:=hD.of _ _ _ hz;have e0:dn.pars=[]:=List.eq_nil_of_length_eq_zero h2;rw[e0]at h4;exact⟨_,.call0 h1 e0,MF h3 ⟨[],.none,h4⟩ (hp.mono (le_succ _)) (succ_le_succ hl)⟩
  |cons h1 h2=>exact CU hp hl he .call h1 (.call (ks:=[]) hz .nil (WV h2) he)
theorem QW{F:Fs}{N:Nat}{kl k b:Kd}{D:List Dn}{most:Int}{v:Vl}{f fr:Fr}{t:Tm}{e:Vl}{g:Cx}{r:List Fr}{c d:Int}(hr:PTy F N kl r b)(hl:r.length+1<=N)(w:ToT f v (.term t e) [fr])(ht:Ty F g t (.t k))(he:ETy F N e g)(hf:FTy F (N+1) fr k b):Pr D most F N kl ⟨.val v,f::r,c,d⟩:=
 ⟨_,.to w,⟨⟨_,.term ht (he.mono (le_succ _)),.cons hf (hr.mono (le_succ _))⟩,le_succ_of_le hl⟩⟩
theorem c9Z{F:Fs}{N:Nat}{kl a b:Kd}{D:List Dn}{most:Int}{v:Vl}{f:Fr}{r:List Fr}{c d:Int}(hD:DTy F D)(hv:W1 F N v a)(hf:FTy F N f a b)(hr:PTy F N kl r b)(hl:r.length+1<=N)(hN:4<=N):Pr D most F N kl ⟨.val v,f::r,c,d⟩:=by
 have hv1:=hv.mono (le_succ N);have hr1:=PTy.mono (le_succ N) hr;have hl3:r.length<=N+1:=by omega
 cases hf with
 |two hk ht he=>exact QW hr hl .two ht he (.then_ hk hv1)
 |cat ht he=>exact QW hr hl .two ht he (.thenC hv1)
 |then_ hk ha=>
  cases ha with
  |int a1 a2=>
   cases hv with
   |int b1 b2=>exact⟨_,.then_ (.num hk),ED (cxZ hk a1 a2) hr1 hl3⟩
 |thenC ha=>
  cases hv with
  |lst hr'=>exact⟨_,.then_ .cons,ED (k:=.lst _) (W.lst (.cons (ha.mono (le_succ _)) (hr'.mono (le_succ _)) (succ_le_succ hr'.vl))) hr1 hl3⟩
 |not=>cases hv with|bl=>exact⟨_,.one .not,ED (k:=.tru) W.bl hr1 hl3⟩
 |empty=>
  cases hv with
  |lst hr'=>
   cases hr' with
   |nil=>exact⟨_,.one .emptyT,ED (k:=.tru) W.bl hr1 hl3⟩
   |cons=>exact⟨_,.one .emptyF,ED (k:=.tru) W.bl hr1 hl3⟩
 |head=>
  cases hv with
  |lst hr'=>
   cases hr' with
   |nil=>exact⟨_,.one .headN,trivial⟩
   |cons h1 h2=>exact⟨_,.one .head,ED (k:=b) (h1.mono (le_succ _)) hr1 hl3⟩
 |tail=>
  cases hv with
  |lst hr'=>
   cases hr' with
   |nil=>exact⟨_,.one .tailN,trivial⟩
   |cons h1 h2=>exact⟨_,.one .tail,ED (k:=.lst _) (W.lst (h2.mono (le_succ _))) hr1 hl3⟩
 |ite ha hb he=>
  cases hv with
  | @bl c=>exact⟨_,.to .ite,⟨⟨_,.term (by cases c;exact hb;exact ha) (he.mono (le_succ _)),hr1⟩,hl3⟩⟩
 |let_ hb he=>exact⟨_,.to .let_,⟨⟨_,.term hb (he.bind hv _),hr1⟩,hl3⟩⟩
 |do_ ha he=>exact QW hr hl .do_ ha he (.with_ hv1)
 |with_ hf=>
  cases hf with
  |fn h1 h2 h3=>exact⟨_,.with_,MF h3 (ETy.bind ⟨_,h1,h2⟩ hv _) hr1 (le_succ_of_le hl)⟩
 | @call z vs ts e g ks _ kt _ hz hvs hts he=>
  have hvl:=hvs.len;cases hts with
  |nil=>
   obtain⟨h0,dn,g',h1,h2,h3,h4⟩:=hD.of _ _ _ hz;refine⟨_,.call h1 (by rw[h2,hvl];simp),MF h3 ⟨_,W.env .none ?_ h2 ((hvs.imp λ_ _ x=>x.mono (le_succ _)).app (.cons hv1 .nil)),λy q e=> ?_⟩ hr1 (le_succ_of_le hl)⟩
   ·show 0+(vs++ [v]).length<=_;simp only[length_append,length_cons,length_nil]at h0⊢;omega
   ·rw[append_nil];exact h4 y q e
  |cons ht hts'=>exact QW hr hl .call ht he (.call (ks:=ks++ [_]) (by simpa using hz) ((hvs.imp λ_ _ x=>x.mono (le_succ _)).app (.cons hv1 .nil)) hts' (he.mono (le_succ _)))
 |back=>exact⟨_,.back,⟨⟨_,.val hv1,hr1⟩,hl3⟩⟩
theorem prog{F:Fs}{N:Nat}{kl:Kd}{D:List Dn}{s:Sta}(hD:DTy F D)(h:StTy F N kl s)(hN:4<=N)(most:Int):Pr D most F N kl s:=by
 obtain⟨fo,pl,c,d⟩:=s;obtain⟨⟨k,hfo,hp⟩,hl⟩:=h;cases hfo with
 |term ht he=>exact c6Z hD ht he hp hl
 |val hv=>
  cases hp with
  |nil=>exact⟨_,.value,hv.mono (le_succ _)⟩
  |cons hf hr=>exact c9Z hD hv hf hr hl hN
end _G
namespace _G
open PySem _L _B
theorem stp{a b:TS}{D:Ends}{σ:St}{H:Hp}(h:∀N:St->Hp->Prop,N=b D->a {D with nx:=N} σ H):S9 a b D σ H:=h _ rfl
noncomputable abbrev Mo(H H':Hp):Prop:=∀b xs,H b=some (.tup xs)->H' b=some (.tup xs)
theorem A4{H H':Hp}(s:Same H H'):Mo H H':=λb xs e=>s _ _ e
inductive TA (H:Hp):Tm->V⊕List V->Prop
 |nil:TA H .nil (.inr [])
 |cons {a r v vs}:TA H a (.inl v)->TA H r (.inr vs)->TA H (.cons a r) (.inr (v::vs))
 |num {n p}:H p=some (.tup [.str "number",.int n])->TA H (.num n) (.inl (.ref p))
 |tru {b p}:H p=some (.tup [.str "truth",.bl b])->TA H (.tru b) (.inl (.ref p))
 |non {p}:H p=some (.tup [.str "none"])->TA H .non (.inl (.ref p))
 |name {z p}:H p=some (.tup [.str "name",.str z])->TA H (.name z) (.inl (.ref p))
 |fn {z b p u}:H p=some (.tup [.str "fn",.str z,u])->TA H b (.inl u)->TA H (.fn z b) (.inl (.ref p))
 |two {s a b p u w}:H p=some (.tup [.str "two",.str s,u,w])->TA H a (.inl u)->TA H b (.inl w)->TA H (.two s a b) (.inl (.ref p))
 |one {s a p u}:H p=some (.tup [.str "one",.str s,u])->TA H a (.inl u)->TA H (.one s a) (.inl (.ref p))
 |ite {c a b p t u w}:H p=some (.tup [.str "if",t,u,w])->TA H c (.inl t)->TA H a (.inl u)->TA H b (.inl w)->TA H (.ite c a b) (.inl (.ref p))
 |let_ {z a b p u w}:H p=some (.tup [.str "let",.str z,u,w])->TA H a (.inl u)->TA H b (.inl w)->TA H (.let_ z a b) (.inl (.ref p))
 |do_ {a b p u w}:H p=some (.tup [.str "do",u,w])->TA H a (.inl u)->TA H b (.inl w)->TA H (.do_ a b) (.inl (.ref p))
 |call {z as p q us}:H p=some (.tup [.str "call",.str z,.ref q])->H q=some (.tup us)->TA H as (.inr us)->TA H (.call z as) (.inl (.ref p))
theorem TA.mono{H H':Hp}(m:Mo H H'){t:Tm}{x:V⊕List V}(h:TA H t x):TA H' t x:=by
 induction h with
 |nil=>exact .nil
 |cons _ _ i1 i2=>exact .cons i1 i2
 |num h=>exact .num (m _ _ h)
 |tru h=>exact .tru (m _ _ h)
 |non h=>exact .non (m _ _ h)
 |name h=>exact .name (m _ _ h)
 |fn h _ i=>exact .fn (m _ _ h) i
 |two h _ _ i1 i2=>exact .two (m _ _ h) i1 i2
 |one h _ i=>exact .one (m _ _ h) i
 |ite h _ _ _ i1 i2 i3=>exact .ite (m _ _ h) i1 i2 i3
 |let_ h _ _ i1 i2=>exact .let_ (m _ _ h) i1 i2
 |do_ h _ _ i1 i2=>exact .do_ (m _ _ h) i1 i2
 |call h g _ i=>exact .call (m _ _ h) (m _ _ g) i
noncomputable abbrev T1(H:Hp)(t:Tm)(v:V):Prop:=TA H t (.inl v)
theorem TA.row{H:Hp}:∀ {as:Tm} {us:List V},TA H as (.inr us)->All2 (T1 H) (_G.row as) us
 |_,_,.nil=> .nil
 |_,_,.cons h1 h2=> .cons h1 h2.row
inductive VA (H:Hp):Vl->V⊕(Bool×List V)->Prop
 |int {n}:VA H (.int n) (.inl (.int n))
 |bl {b}:VA H (.bl b) (.inl (.bl b))
 |lst {r p q us}:H p=some (.tup [.str "list",.ref q])->H q=some (.tup us)->VA H r (.inr (false,us))->VA H (.lst r) (.inl (.ref p))
 |fn {z b e p q t us}:H p=some (.tup [.str "fn",.str z,t,.ref q])->T1 H b t->H q=some (.tup us)->VA H e (.inr (true,us))->VA H (.fn z b e) (.inl (.ref p))
 |nil {b}:VA H .nil (.inr (b,[]))
 |cons {a r v vs}:VA H a (.inl v)->VA H r (.inr (false,vs))->VA H (.cons a r) (.inr (false,v::vs))
 |bind {e z a us v q}:VA H e (.inr (true,us))->H q=some (.tup [.str z,v])->VA H a (.inl v)->VA H (.bind e z a) (.inr (true,us++ [.ref q]))
theorem VA.mono{H H':Hp}(m:Mo H H'){t:Vl}{x:V⊕(Bool×List V)}(h:VA H t x):VA H' t x:=by
 induction h with
 |int=>exact .int
 |bl=>exact .bl
 |lst h g _ i=>exact .lst (m _ _ h) (m _ _ g) i
 |fn h t g _ i=>exact .fn (m _ _ h) (t.mono m) (m _ _ g) i
 |nil=>exact .nil
 |cons _ _ i1 i2=>exact .cons i1 i2
 |bind _ h _ i1 i2=>exact .bind i1 (m _ _ h) i2
noncomputable abbrev V1(H:Hp)(t:Vl)(v:V):Prop:=VA H t (.inl v)
theorem VA.len{H:Hp}{r:Vl}{us:List V}{b:Bool}(h:VA H r (.inr (b,us))):us.length=L7 r:=by
 generalize e:(Sum.inr (b,us):V⊕(Bool×List V))=x at h;induction h generalizing us b with
 |nil=>cases e;rfl
 |cons _ _ _ i2=>cases e;simp only[length_cons,L7,i2 rfl]
 |bind _ _ _ i1 _=>cases e;simp only[length_append,length_cons,length_nil,L7,i1 rfl]
 |_=>cases e
inductive EA (H:Hp) (e:Vl) (v:V):Prop
 |mk:∀q us,(v=.ref q)->(H q=some (.tup us))->(VA H e (.inr (true,us)))->EA H e v
theorem EA.mono{H H':Hp}(m:Mo H H'){e:Vl}{v:V}(h:EA H e v):EA H' e v:=let⟨q,us,a,b,c⟩:=h;⟨q,us,a,m _ _ b,c.mono m⟩
inductive FA (H:Hp):Fr->V->Prop
 |two {s t e p u w}:H p=some (.tup [.str "two",.str s,u,w])->T1 H t u->EA H e w->FA H (.two s t e) (.ref p)
 |then_ {s a p u}:H p=some (.tup [.str "then",.str s,u])->V1 H a u->FA H (.then_ s a) (.ref p)
 |one {s p}:H p=some (.tup [.str "one",.str s])->FA H (.one s) (.ref p)
 |ite {a b e p t u w}:H p=some (.tup [.str "if",t,u,w])->T1 H a t->T1 H b u->EA H e w->FA H (.ite a b e) (.ref p)
 |let_ {z b e p u w}:H p=some (.tup [.str "let",.str z,u,w])->T1 H b u->EA H e w->FA H (.let_ z b e) (.ref p)
 |do_ {a e p u w}:H p=some (.tup [.str "do",u,w])->T1 H a u->EA H e w->FA H (.do_ a e) (.ref p)
 |with_ {f p u}:H p=some (.tup [.str "with",u])->V1 H f u->FA H (.with_ f) (.ref p)
 |call {z vs ts e p q r us ws w}:H p=some (.tup [.str "call",.str z,.ref q,.ref r,w])->H q=some (.tup us)->All2 (V1 H) vs us->H r=some (.tup ws)->All2 (T1 H) ts ws->EA H e w->FA H (.call z vs ts e) (.ref p)
 |back {p}:H p=some (.tup [.str "back"])->FA H .back (.ref p)
theorem FA.mono{H H':Hp}(m:Mo H H'){f:Fr}{v:V}(h:FA H f v):FA H' f v:=by
 cases h with
 |two h t e=>exact .two (m _ _ h) (t.mono m) (e.mono m)
 |then_ h t=>exact .then_ (m _ _ h) (t.mono m)
 |one h=>exact .one (m _ _ h)
 |ite h a b e=>exact .ite (m _ _ h) (a.mono m) (b.mono m) (e.mono m)
 |let_ h a e=>exact .let_ (m _ _ h) (a.mono m) (e.mono m)
 |do_ h a e=>exact .do_ (m _ _ h) (a.mono m) (e.mono m)
 |with_ h a=>exact .with_ (m _ _ h) (a.mono m)
 |call h g a k b e=>exact .call (m _ _ h) (m _ _ g) (a.imp λ_ _ x=>x.mono m) (m _ _ k) (b.imp λ_ _ x=>x.mono m) (e.mono m)
 |back h=>exact .back (m _ _ h)
inductive FoA (H:Hp):Fo->V->Prop
 |term {t e p u w}:H p=some (.tup [.str "term",u,w])->T1 H t u->EA H e w->FoA H (.term t e) (.ref p)
 |val {v p u}:H p=some (.tup [.str "value",u])->V1 H v u->FoA H (.val v) (.ref p)
theorem FoA.mono{H H':Hp}(m:Mo H H'){f:Fo}{v:V}(h:FoA H f v):FoA H' f v:=by
 cases h with
 |term h t e=>exact .term (m _ _ h) (t.mono m) (e.mono m)
 |val h t=>exact .val (m _ _ h) (t.mono m)
inductive PiA (H:Hp) (fs:List Fr) (v:V):Prop
 |mk:∀p us,(v=.ref p)->(H p=some (.tup us))->(All2 (FA H) fs.reverse us)->PiA H fs v
theorem PiA.mono{H H':Hp}(m:Mo H H'){fs:List Fr}{v:V}(h:PiA H fs v):PiA H' fs v:=let⟨p,us,e,h,a⟩:=h;⟨p,us,e,m _ _ h,a.imp λ_ _ x=>x.mono m⟩
inductive StA (H:Hp) (s:Sta) (v:V):Prop
 |mk:∀p f l,(v=.ref p)->(H p=some (.tup [f,l,.int s.calls,.int s.deep]))->(FoA H s.fo f)->(PiA H s.pile l)->StA H s v
theorem StA.mono{H H':Hp}(m:Mo H H'){s:Sta}{v:V}(h:StA H s v):StA H' s v:=let⟨p,f,l,e,h,a,b⟩:=h;⟨p,f,l,e,m _ _ h,a.mono m,b.mono m⟩
inductive RsA (H:Hp) (fs:List Fr) (calls deep:Int) (v:V):Prop
 |mk:∀p l,(v=.ref p)->(H p=some (.tup [l,.int calls,.int deep]))->(PiA H fs l)->RsA H fs calls deep v
theorem RsA.mono{H H':Hp}(m:Mo H H'){fs:List Fr}{c d:Int}{v:V}(h:RsA H fs c d v):RsA H' fs c d v:=let⟨p,l,e,h,x⟩:=h;⟨p,l,e,m _ _ h,x.mono m⟩
inductive PA' (H:Hp):Vl->V⊕List V->Prop
 |int {n}:PA' H (.int n) (.inl (.int n))
 |bl {b}:PA' H (.bl b) (.inl (.bl b))
 |lst {r p us}:H p=some (.lst us)->PA' H r (.inr us)->PA' H (.lst r) (.inl (.ref p))
 |nil:PA' H .nil (.inr [])
 |cons {a r v vs}:PA' H a (.inl v)->PA' H r (.inr vs)->PA' H (.cons a r) (.inr (v::vs))
noncomputable def ReA(H:Hp):Res->V->Prop
 | .st s,v=>StA H s v
 | .dry,v=>∃p,v=.ref p/\H p=some (.tup [.str "dry"])
 | .deep,v=>∃p,v=.ref p/\H p=some (.tup [.str "deep"])
 | .refd w,v=>∃p,v=.ref p/\H p=some (.tup [.str "refused",.str w])
 | .value x,v=>∃p u,v=.ref p/\H p=some (.tup [.str "value",u])/\PA' H x (.inl u)
inductive OuA (H:Hp):Out->V->Prop
 |val {v p u}:H p=some (.tup [.str "value",u])->V1 H v u->OuA H (.val v) (.ref p)
 |ref {w p}:H p=some (.tup [.str "refused",.str w])->OuA H (.ref w) (.ref p)
inductive DnA (H:Hp) (d:Dn) (v:V):Prop
 |mk:∀p q t,(v=.ref p)->(H p=some (.tup [.str "def",.str d.name,.ref q,t]))->(H q=some (.tup (d.pars.map .str)))->(T1 H d.body t)->DnA H d v
theorem DnA.mono{H H':Hp}(m:Mo H H'){d:Dn}{v:V}(h:DnA H d v):DnA H' d v:=let⟨p,q,t,e,h,g,x⟩:=h;⟨p,q,t,e,m _ _ h,m _ _ g,x.mono m⟩
inductive PgA (H:Hp) (P:List Dn) (v:V):Prop
 |mk:∀p us,(v=.ref p)->(H p=some (.tup us))->(All2 (DnA H) P us)->PgA H P v
theorem PgA.mono{H H':Hp}(m:Mo H H'){P:List Dn}{v:V}(h:PgA H P v):PgA H' P v:=let⟨p,us,e,h,a⟩:=h;⟨p,us,e,m _ _ h,a.imp λ_ _ x=>x.mono m⟩
theorem K0:1<=sizeLine:=by decide
theorem C5:2<=sizeLine:=by decide
theorem C7:3<=sizeLine:=by decide
theorem P2:4<=sizeLine:=by decide
theorem aBZ:5<=sizeLine:=by decide
theorem NH{K:FZ}{H:Hp}{p q:Addr}{us:List V}{u:V}{Q:VK}(hp:H p=some (.tup us))(hq:H q=some (.tup [u]))(hz:us.length<=100000)
  (go:∀r H',Same H H'->H' r=some (.tup (us++ [u]))->Q (.ref r) H'):GN K (.ref p) (.ref q) H Q\/FU K (.ref p) (.ref q) H Q:=by
 have zz:(100001:Nat)<=sizeLine:=by decide
 cases us with
 |nil=>exact .inr ⟨p,q,[u],rfl,rfl,SqT.of hp,SqT.of hq,go _ _ (Same.refl _) hq⟩
 |cons x us=>
  refine .inl ⟨p,q,x::us,[u],rfl,rfl,SqT.of hp,SqT.of hq,cons_ne_nil _ _, ?_,λe=>absurd e (cons_ne_nil _ _),λ_ r hr=> ?_⟩
  ·simp only[length_cons,length_nil]at hz⊢;omega
  exact go _ _ (A1 hr _) A2
theorem P4{K:FZ}{H:Hp}{fs:List Fr}{l:V}{fr:Fr}{u:V}{q:Addr}{Q:VK}(h:PiA H fs l)(hf:FA H fr u)(hq:H q=some (.tup [u]))(hz:fs.length<=100000)
  (go:∀r H',Same H H'->PiA H' (fr::fs) r->Q r H'):GN K l (.ref q) H Q\/FU K l (.ref q) H Q:=by
 obtain⟨p,us,rfl,hp,ha⟩:=h;have hl:=ha.len;rw[length_reverse]at hl;refine NH hp hq (by omega) λr H' s1 hr=>go _ _ s1 ⟨r,_,rfl,hr, ?_⟩;rw[reverse_cons];exact(ha.imp λ_ _ h=>h.mono (A4 s1)).app (.cons (hf.mono (A4 s1)) .nil)
theorem HB{K:FZ}{H:Hp}{e a:Vl}{l v:V}{z:Str}{u q:Addr}{Q:VK}(h:EA H e l)(hu:H u=some (.tup [.str z,v]))(ha:V1 H a v)(hq:H q=some (.tup [.ref u]))(hz:L7 e<=100000)
  (go:∀r H',Same H H'->EA H' (.bind e z a) r->Q r H'):GN K l (.ref q) H Q\/FU K l (.ref q) H Q:=by
 obtain⟨p,us,rfl,hp,hv⟩:=h;have hl:=hv.len;exact NH hp hq (by omega) λr H' s1 hr=>go _ _ s1 ⟨r,_,rfl,hr,.bind (hv.mono (A4 s1)) (s1 _ _ hu) (ha.mono (A4 s1))⟩
end _G
namespace _G
open PySem _L _B
seal PE PT PW PA PS PSs PTs PI PG PGs PO
noncomputable abbrev BX:Stmt:=_B.top 28
noncomputable abbrev DJ:Stmt:=_B.top 16
noncomputable abbrev O7:Stmt:=_B.top 15
noncomputable abbrev IQ:Stmt:=_B.top 25
noncomputable abbrev MI:List Str:=["body","bound","rest","most","pile","calls","deep"]
theorem sc_into_body:FnScope MI atZ (B3 BX):=fS
noncomputable abbrev PU:List Str:=["names","values"]
theorem sc_bound_to:FnScope PU ZY (B3 DJ):=fS
noncomputable abbrev Y4:List Str:=["program","name"]
theorem sc_function_called:FnScope Y4 ZP (B3 O7):=fS
noncomputable abbrev VZ:List Str:=["focus","waits","rest"]
theorem sc_pushed:FnScope VZ bgZ (B3 IQ):=fS
theorem SH{H:Hp}{ys ps:List V}(h:Prs H [] ys ps):ps=[]:=List.eq_nil_of_length_eq_zero (h.len.trans (by simp))
theorem MY{H:Hp}{x y:V}{xs ys ps:List V}(h:Prs H (x::xs) (y::ys) ps):∃q ps',ps=.ref q::ps'/\H q=some (.tup [x,y])/\Prs H xs ys ps':=by
 obtain⟨q,e,hq⟩:=h.at_ 0 x y rfl rfl;cases ps with
 |nil=>cases e
 |cons p ps=>
  cases e;refine⟨q,ps,rfl,hq,by have:=h.len;simp only[length_cons]at this;omega,λj a b ha hb=> ?_⟩;exact h.at_ (j+1) a b (by simpa using ha) (by simpa using hb)
theorem KY{H:Hp}:∀ {ns:List Str} {vs:List Vl} {us ps us0:List V} {e:Vl},ns.length=vs.length->All2 (V1 H) vs us->Prs H (ns.map V.str) us ps->VA H e (.inr (true,us0))->VA H (ZS e ns vs) (.inr (true,us0++ps))
 | [],_,us,ps,us0,e,_,_,hp,h=>by rw[SH hp,append_nil];exact h
 |z::ns,v::vs,_,ps,us0,e,hl,.cons (b:=u) a1 a2,hp,h=>by
  obtain⟨q,ps',rfl,hq,hp'⟩:=MY hp;have:=KY (ns:=ns) (e:=.bind e z v) (by simpa using hl) a2 hp' (.bind h hq a1);rw[List.append_assoc]at this;exact this
section
variable{P:Program}{w:World}{K:FZ}{mg:Str->Option Value}{base:Heap}{f:Addr}{fd:FuncData}
inductive spIntoW(vs:List V)(H:Hp)(Q:VK):Prop
 |mk:∀(b:Tm) (e:Vl) (r:List Fr) (calls deep most:Int) (bv ev rv:V),(vs=[bv,ev,rv,.int most])->(T1 H b bv)->(EA H e ev)->(RsA H r calls deep rv)->(r.length<=10000)->(∀v H',Same H H'->ReA H' (FT most b e r calls deep) v->Q v H')->spIntoW vs H Q
noncomputable def QG:Sp:=λvs H Q _=>spIntoW vs H Q
theorem ok_into_body{tD:Tok}(m_DEEPEST:mg "DEEPEST"=some (.int 60 tD))(F:Fun K "into_body" "into_body" BX f fd):FnOk P w K mg base CX0 1 f fd atZ QG:=by
 refine F.ok sc_into_body (λvs H Q E h=> ?_) (λcdv A outer s H vs Q E hr h=> ?_)
 ·obtain⟨b,e,r,calls,deep,most,bv,ev,rv,rfl,_⟩:=h;rfl
 obtain⟨b,e,r,calls,deep,most,bv,ev,rv,rfl,hb,he,⟨p,l,rfl,hp,hl⟩,hz,q⟩:=h;have nd:=sc_into_body.nd;have hu:=hr.units0;have z4:(4:Nat)<=sizeLine:=by decide
 refine⟨_,(A6 (sS 4 nd (ixE K w (pv 2) A3))
   (A6 (sS 5 nd (ixE K w (pv 2) A3))
   (A6 (sS 6 nd (ixE K w (pv 2) A3))
   (A6 (B7 (B0 RJ (pv 5) (pv 3) rfl) (A9 (B4 (A8 (A0 A7 A5)))) B6)
   (A6 (B7 (B0 RJ (pv 6) (CJ (v:=.int 60) rfl m_DEEPEST ⟨_,rfl⟩) rfl) (A9 (B4 (A8 (A0 A7 A5)))) B6)
   (A9 (B4 (A8 (A0 (A8 (A0 A7 (A0 (pv 0) (A0 (pv 1) A5)))) (A0 (B5 (E4 (K:=K)) (pv 4) (A8 (A0 (A8 (A0 A7 A5)) A5))) (A0 (B5 (E4 (K:=K)) (pv 5) A3) (A0 (B5 (E4 (K:=K)) (pv 6) A3) A5)))))))))))), ?_⟩
 refine⟨_,rfl,(ixT hp rfl ?_)⟩;refine⟨_,rfl,(ixT hp rfl ?_)⟩;refine⟨_,rfl,(ixT hp rfl ?_)⟩;unfold FT at q;refine⟨_,rfl,_,rfl,_,_,rfl,rfl,_,rfl,F9 (λc=> ?_) (λc=> ?_)⟩
 ·refine⟨K0,λa ha=>q _ _ (A1 ha _) ?_⟩;rw[if_pos (of_decide_eq_true c)];exact⟨a,rfl,A2⟩
 rw[if_neg (λz=>c (decide_eq_true z))]at q;refine⟨_,rfl,_,_,rfl,rfl,_,rfl,F9 (λc=> ?_) (λc=> ?_)⟩
 ·refine⟨K0,λa ha=>q _ _ (A1 ha _) ?_⟩;rw[if_pos (of_decide_eq_true c)];exact⟨a,rfl,A2⟩
 rw[if_neg (λz=>c (decide_eq_true z))]at q;refine⟨_,rfl,_,rfl,C7,λa ha=> ?_⟩;have s1:=A1 ha (.tup [.str "term",bv,ev]);refine⟨_,rfl,K0,λa2 ha2=>⟨K0,λa3 ha3=> .inr (P4 (fr:=.back) (hl.mono (A4 (s1.trans ((A1 ha2 (.tup [.str "back"])).trans (A1 ha3 (.tup [.ref a2])))))) (.back ((A1 ha3 _) _ _ A2)) A2 (by omega) λpv H4 s4 hp4=> ?_)⟩⟩;have s14:=(A1 ha2 (.tup [.str "back"])).trans ((A1 ha3 (.tup [.ref a2])).trans s4);refine⟨_,rfl,.inl ⟨_,_,rfl,rfl,_,rfl,.inl ⟨_,_,rfl,rfl,z4,λa5 ha5=> ?_⟩⟩⟩;have s5:=A1 ha5 (.tup [.ref a,pv,.int (calls+1),.int (deep+1)]);have sA:=s1.trans (s14.trans s5);exact q _ _ sA ⟨a5,.ref a,pv,rfl,A2,.term ((s14.trans s5) _ _ A2) (hb.mono (A4 sA)) (he.mono (A4 sA)),hp4.mono (A4 s5)⟩
inductive spBoundW (vs:List V) (H:Hp) (Q:VK):Prop
 |mk:∀(a b:Addr) (ns:List Str) (xs:List Vl) (us:List V),(vs=[.ref a,.ref b])->(H a=some (.tup (ns.map .str)))->((H b=some (.tup us)\/H b=some (.lst us)))->(All2 (V1 H) xs us)->(ns.length=xs.length)->(ns.length<=1000)->(∀v H',Same H H'->EA H' (env ns xs) v->Q v H')->spBoundW vs H Q
noncomputable def LW:Sp:=λvs H Q _=>spBoundW vs H Q
theorem ok_bound_to(F:Fun K "bound_to" "bound_to" DJ f fd)(B:_B.NoG mg):FnOk P w K mg base CX0 1 f fd ZY LW:=by
 refine F.ok sc_bound_to (λvs H Q E h=> ?_) (λcdv A outer s H vs Q E hr h=> ?_)
 ·obtain⟨a,b,ns,xs,us,rfl,_⟩:=h;rfl
 obtain⟨a,b,ns,xs,us,rfl,ha,hb,hx,hl,hz,q⟩:=h;have nd:=sc_bound_to.nd;have zz:(1000:Nat)<=sizeLine:=by decide
 refine⟨_,(A9 (B4 (QJ (K:=K) rfl B.zip_ rfl B.tuple_ rfl (A0 (pv 0) (A0 (pv 1) A5))))), ?_⟩;refine⟨_,rfl,_,rfl,a,b,_,_,rfl,.inl (SqT.of ha),hb.imp SqT.of SqL.of,(by rw[length_map,<-hx.len,hl,min_self];omega),λr H' ps sm _ hr hp=> ?_⟩;exact q _ _ sm ⟨r,_,rfl,hr,KY (us0:=[]) hl (hx.imp λ_ _ h=>h.mono (A4 sm)) hp .nil⟩
inductive spFcW (vs:List V) (H:Hp) (Q:VK):Prop
 |mk:∀(D:List Dn) (d:Dn) (z:Str) (v:V),(vs=[v,.str z])->(PgA H D v)->(D.length<=1000)->((D.find? λd=>d.name==z)=some d)->(∀u H',Same H H'->DnA H' d u->Q u H')->spFcW vs H Q
noncomputable def bmZ:Sp:=λvs H Q _=>spFcW vs H Q
theorem ok_function_called(F:Fun K "function_called" "function_called" O7 f fd):FnOk P w K mg base CX0 1 f fd ZP bmZ:=by
 refine F.ok sc_function_called (λvs H Q E h=> ?_) (λcdv A outer s H vs Q E hr h=> ?_)
 ·obtain⟨D,d,z,v,rfl,_⟩:=h;rfl
 obtain⟨D,d,z,v,rfl,⟨p,us,rfl,hp,hD⟩,hz,hd,q⟩:=h;have nd:=sc_function_called.nd;have hu:=hr.units0;have zz:(1000:Nat)<=sizeLine:=by decide
 have hl:=hD.len;refine⟨_,(A9 (B4 (ixE K w (U2 (cS (N:=Y4) (sc:=B3 O7) (caps:=[1]) (ns:=["name"])) rfl rfl rfl (DZ (K:=K) (pv 0)) (λ_ _ _ _ _=>(U6 (B0 (kEq (K:=K) hu) (ixE K w (pv 0) A3) (pv 1) rfl))) (λ_ _ _ _ _=>(pv 0))) A3))), ?_⟩;refine⟨_,rfl,p,rfl,⟨us,SqT.of hp⟩,EM (xs:=us) (λj ys H'=>(∃vs,ys=vs/\vs.length<=j/\(∀d,((D.take j).find? λd=>d.name==z)=some d->∃u rest,vs=u::rest/\DnA H d u)/\(((D.take j).find? λd=>d.name==z)=none->vs=[]))/\H=H') ⟨⟨[],rfl,Nat.le_refl _,by simp,λ_=>rfl⟩,rfl⟩ ?_ ?_ ?_⟩
 ·rintro i ys H' hi ⟨⟨vs,rfl,hv,_⟩,rfl⟩;exact⟨SqT.of hp,by omega⟩
 ·rintro i x ys H' hx ⟨⟨vs,rfl,hv,hf,hn⟩,rfl⟩;obtain⟨di,hdi,a,b,t,rfl,ha,hb,ht⟩:=hD.get hx;refine⟨_,rfl,(ixT ha rfl ⟨_,rfl,.inl ⟨rfl,_,rfl,F9 (λc=>⟨_,rfl,⟨⟨_,rfl,by rw[length_append];simp only[length_cons,length_nil];omega,λd' h'=> ?_,λh'=> ?_⟩,rfl⟩⟩) (λc=>⟨⟨_,rfl,by omega,λd' h'=> ?_,λh'=> ?_⟩,rfl⟩)⟩⟩)⟩
  ·rw[_B.take_one hdi,find?_append]at h';cases h9:(D.take i).find? λd=>d.name==z with
   |some d9=>
    rw[h9]at h';have e9:d9=d':=by simpa using h'
    subst e9;obtain⟨u,rest,e,h⟩:=hf d9 h9;exact⟨u,rest++ [.ref a],by rw[e];rfl,h⟩
   |none=>
    rw[h9]at h';have e8:di.name==z/\di=d':=by simpa using h'
    obtain⟨_,rfl⟩:=e8;rw[hn h9];exact⟨.ref a,[],rfl,a,b,t,rfl,ha,hb,ht⟩
  ·rw[_B.take_one hdi,find?_append]at h';have e7:di.name=z:=by have:=of_decide_eq_true c;injection this
   simp[e7]at h'
  ·rw[_B.take_one hdi,find?_append]at h';cases h9:(D.take i).find? λd=>d.name==z with
   |some d9=>
    rw[h9]at h';have e9:d9=d':=by simpa using h'
    subst e9;exact hf d9 h9
   |none=>
    rw[h9]at h';have e8:di.name==z/\di=d':=by simpa using h'
    have e7:di.name=z:=by simpa using e8.1
    exact absurd (by rw[e7];exact decide_eq_true rfl) c
  ·rw[_B.take_one hdi,find?_append]at h';exact hn (Option.or_eq_none_iff.mp h').1
 rintro ys H' ⟨⟨vs,rfl,hv,hf,_⟩,rfl⟩ r hr0;rw[<-hl,take_of_length_le (Nat.le_refl _)]at hf;obtain⟨u,rest,rfl,h⟩:=hf d hd;have s1:=A1 hr0 (.lst (u::rest));exact(ixL A2 (show atI (u::rest) ((0:Nat):Int)=some u from D5 rfl) (q _ _ s1 (h.mono (A4 s1))))
end
noncomputable abbrev U3:Stmt:=_B.top 19
noncomputable abbrev W6:Stmt:=_B.top 18
noncomputable abbrev AL:Stmt:=_B.top 20
noncomputable abbrev CT:List Str:=["name","bound"]
theorem sc_value_bound:FnScope CT bvZ (B3 U3):=fS
noncomputable abbrev GV:List Str:=["term","bound","form"]
theorem sc_value_at_once:FnScope GV TB (B3 W6):=fS
noncomputable abbrev MD:List Str:=["term","bound","form"]
theorem sc_waiting_of:FnScope MD TB (B3 AL):=fS
theorem TW{K:FZ}{a:Addr}{xs:List V}{caps:List Nat}{tt:TT}{te:TE}{σ:St}{H:Hp}{R:List V->Hp->Prop}(Pv:Nat->List V->Hp->Prop)(h0:Pv 0 [] H)(hl:∀i ys H,i<=xs.length->Pv i ys H->SqT K H a xs/\ys.length<=sizeLine)
  (hs:∀i x ys H,xs[i]? =some x->Pv i ys H->∃p v1 v2,x=.ref p/\SqT K H p [v1,v2]/\tt (capσ2 caps σ (some v1) (some v2)) H λb H2=>if b=true then te (capσ2 caps σ (some v1) (some v2)) H2 λy H3=>Pv (i+1) (ys++ [y]) H3 else Pv (i+1) ys H2)(hd:∀ys H,Pv xs.length ys H->R ys H):
  ∃W:Nat->Nat->List V->Hp->Prop,(∃m,W 0 m [] H)/\∀i m ys H,W i m ys H->ys.length<=sizeLine/\(((Itt K a).stop i H/\R ys H)\/((Itt K a).go i H/\∃N:List V->Hp->Prop,(∀ys' H',N ys' H'->∃m',m'<m/\W (i+1) m' ys' H')/\∀v H',(Itt K a).yld i H v H'->
   ∃p v1 v2,v=.ref p/\SqT K H' p [v1,v2]/\tt (capσ2 caps σ (some v1) (some v2)) H' λb H2=>if b=true then te (capσ2 caps σ (some v1) (some v2)) H2 λy H3=>N (ys++ [y]) H3 else N ys H2)):=by
 refine⟨λi m ys H=>m=xs.length - i/\i<=xs.length/\Pv i ys H,⟨xs.length,by simp,zero_le _,h0⟩, ?_⟩;rintro i m ys H ⟨rfl,hi,p⟩;obtain⟨q,hz⟩:=hl i ys H hi p;refine⟨hz, ?_⟩;by_cases hlt:i<xs.length
 ·refine .inr ⟨⟨xs,xs[i],q,by simp[hlt]⟩,Pv (i+1),λys' H' p'=>⟨xs.length - (i+1),by omega,rfl,hlt,p'⟩,λx H' y=> ?_⟩;obtain⟨e,y⟩:=y;subst e;exact hs i x ys _ (y xs q) p
 ·have e:i=xs.length:=by omega
  subst e;exact .inl ⟨⟨xs,q,Nat.le_refl _⟩,hd ys H p⟩
noncomputable def lk(z:Str):List (Str×Vl)->Option Vl
 | []=>none
 |(y,n)::r=>match lk z r with
  |some m=>some m
  |none=>if y=z then some n else none
theorem CB(z:Str)(e:List (Str×Vl))(x:Str×Vl):lk z (e++ [x])=if x.1=z then some x.2 else lk z e:=by
 induction e with
 |nil=>simp[lk]
 |cons y r ih=>
  obtain⟨y1,y2⟩:=y;simp only[List.cons_append,lk,ih];by_cases h:x.1=z
  ·rw[if_pos h,if_pos h]
  ·rw[if_neg h,if_neg h]
noncomputable def binds:Vl->List (Str×Vl)
 | .bind e z a=>binds e++ [(z,a)]
 |_=> []
theorem HG(z:Str):∀e:Vl,lk z (binds e)=look z e
 | .bind e y a=>by rw[binds,CB,HG z e,look]
 | .int _| .bl _| .lst _| .fn _ _ _| .nil| .cons _ _=>rfl
inductive PrA (H:Hp) (x:Str×Vl) (u:V):Prop
 |mk:∀q v,(u=.ref q)->(H q=some (.tup [.str x.1,v]))->(V1 H x.2 v)->PrA H x u
theorem NQ{H:Hp}{e:Vl}{us:List V}(h:VA H e (.inr (true,us))):All2 (PrA H) (binds e) us:=by
 generalize eq:(Sum.inr (true,us):V⊕(Bool×List V))=x at h;induction h generalizing us with
 |nil=>cases eq;exact .nil
 |bind _ h1 h2 i1 _=>cases eq;exact(i1 rfl).app (.cons ⟨_,_,rfl,h1,h2⟩ .nil)
 |_=>cases eq
section
variable{P:Program}{w:World}{K:FZ}{mg:Str->Option Value}{base:Heap}{f:Addr}{fd:FuncData}{ZI:Addr}{ZH:FuncData}
inductive spVbW(vs:List V)(H:Hp)(Q:VK):Prop
 |mk:∀(z:Str) (e:Vl) (v:V) (x:Vl),(vs=[.str z,v])->(EA H e v)->(L7 e<=1000)->(look z e=some x)->(∀u H',Same H H'->V1 H' x u->Q u H')->spVbW vs H Q
noncomputable def cCZ:Sp:=λvs H Q _=>spVbW vs H Q
theorem ok_value_bound(F:Fun K "value_bound" "value_bound" U3 f fd):FnOk P w K mg base CX0 1 f fd bvZ cCZ:=by
 refine F.ok sc_value_bound (λvs H Q E h=> ?_) (λcdv A outer s H vs Q E hr h=> ?_)
 ·obtain⟨z,e,v,n,rfl,_⟩:=h;rfl
 obtain⟨z,e,v,n,rfl,⟨p,us,rfl,hp,he⟩,hz,hn,q⟩:=h;have nd:=sc_value_bound.nd;have hu:=hr.units0;have zz:(1000:Nat)<=sizeLine:=by decide
 have hl:=he.len;have hb:=NQ he;have hbl:=hb.len;rw[<-HG]at hn;refine⟨_,(A9 (B4 (ixE K w (HP (CompScope2.mk (N:=CT) (sc:=B3 U3) (caps:=[0]) (ns:=["name"]) (by decide +kernel) rfl (by decide +kernel) rfl rfl (by decide +kernel) rfl (by decide +kernel) (by decide +kernel)) rfl rfl rfl (DZ (K:=K) (pv 1)) (λ_ _ _ _ _=>(U6 (B0 (kEq (K:=K) hu) (pv 0) (pv 2) rfl))) (λ_ _ _ _ _=>(pv 1))) (EY AJ A3)))), ?_⟩;refine⟨_,rfl,p,rfl,⟨us,SqT.of hp⟩,TW (xs:=us) (λj ys H'=>ys.length<=j/\(∀m,lk z ((binds e).take j)=some m->∃pre u,ys=pre++ [u]/\V1 H m u)/\H=H') ⟨Nat.le_refl _,by simp[lk],rfl⟩ ?_ ?_ ?_⟩
 ·rintro i ys H' hi ⟨hv,_,rfl⟩;exact⟨SqT.of hp,by omega⟩
 ·rintro i x ys H' hx ⟨hv,hf,rfl⟩;obtain⟨⟨y1,y2⟩,hy,a,u,rfl,ha,hau⟩:=hb.get hx;refine⟨a,_,_,rfl,SqT.of ha,_,rfl,_,rfl,.inl ⟨rfl,_,rfl,F9 (λc=>⟨_,rfl, ?_,λm hm=> ?_,rfl⟩) (λc=>⟨by omega,λm hm=> ?_,rfl⟩)⟩⟩
  ·rw[length_append];simp only[length_cons,length_nil];omega
  ·have ec:y1=z:=by have:=of_decide_eq_true c;injection this
   rw[_B.take_one hy,CB,if_pos ec]at hm;cases hm;exact⟨ys,u,rfl,hau⟩
  ·have ec:¬y1=z:=λz=>c (by rw[z];exact decide_eq_true rfl);rw[_B.take_one hy,CB,if_neg ec]at hm;exact hf m hm
 rintro ys H' ⟨hv,hf,rfl⟩ r hr0;rw[<-hbl,take_of_length_le (Nat.le_refl _)]at hf;obtain⟨pre,u,rfl,hu1⟩:=hf n hn;exact⟨1,rfl,(ixL A2 (BY _ _) (q _ _ (A1 hr0 _) (hu1.mono (A4 (A1 hr0 _)))))⟩
inductive spOnceW (vs:List V) (H:Hp) (Q:VK):Prop
 |mk:∀(t:Tm) (e v:Vl) (tv ev:V),(vs=[tv,ev])->(T1 H t tv)->(EA H e ev)->(L7 e<=1000)->(Once e t v)->(∀u H',Same H H'->V1 H' v u->Q u H')->spOnceW vs H Q
noncomputable def VY:Sp:=λvs H Q _=>spOnceW vs H Q
theorem ok_value_at_once(F:Fun K "value_at_once" "value_at_once" W6 f fd)
  (Y8:Cn P w K mg base CX0 1 "value_bound" bvZ cCZ):
  FnOk P w K mg base CX0 2 f fd TB VY:=by
 refine F.ok sc_value_at_once (λvs H Q E h=> ?_) (λcdv A outer s H vs Q E hr h=> ?_)
 ·obtain⟨t,e,v,tv,ev,rfl,_⟩:=h;rfl
 obtain⟨t,e,v,tv,ev,rfl,ht,he,hz,hv,q⟩:=h;have nd:=sc_value_at_once.nd;have hu:=hr.units0;have z4:(4:Nat)<=sizeLine:=by decide
 refine⟨_,(A6 (sS 2 nd (ixE K w (pv 0) A3))
   (A6 (B7 (B0 (kEq (K:=K) hu) (pv 2) A7 rfl) (A9 (B4 (A8 (A0 A7 (A0 (A8 A5) A5))))) B6)
   (A6 (B7 (B0 (kEq (K:=K) hu) (pv 2) A7 rfl) (A9 (B4 (cC Y8 hr (A0 (ixE K w (pv 0) A3) (A0 (pv 1) A5))))) B6)
   (A6 (B7 (B0 (kEq (K:=K) hu) (pv 2) A7 rfl) (A9 (B4 (A8 (A0 A7 (A0 (ixE K w (pv 0) A3) (A0 (ixE K w (pv 0) A3) (A0 (pv 1) A5))))))) B6)
   (A9 (B4 (ixE K w (pv 0) A3))))))), ?_⟩
 cases hv with
 |num=>
  cases ht with
  | @num _ p hp=>
   refine⟨_,rfl,(ixT hp rfl ?_)⟩;refine⟨_,rfl,.inl ⟨rfl,_,rfl,ifF nZ ⟨_,rfl,.inl ⟨rfl,_,rfl,ifF nZ ⟨_,rfl,.inl ⟨rfl,_,rfl,ifF nZ ?_⟩⟩⟩⟩⟩⟩;exact⟨_,rfl,(ixT hp rfl (q _ _ (Same.refl _) .int))⟩
 |tru=>
  cases ht with
  | @tru _ p hp=>
   refine⟨_,rfl,(ixT hp rfl ?_)⟩;refine⟨_,rfl,.inl ⟨rfl,_,rfl,ifF nZ ⟨_,rfl,.inl ⟨rfl,_,rfl,ifF nZ ⟨_,rfl,.inl ⟨rfl,_,rfl,ifF nZ ?_⟩⟩⟩⟩⟩⟩;exact⟨_,rfl,(ixT hp rfl (q _ _ (Same.refl _) .bl))⟩
 |non=>
  cases ht with
  | @non p hp=>
   refine⟨_,rfl,(ixT hp rfl ?_)⟩;refine⟨_,rfl,.inl ⟨rfl,_,rfl,ifT rfl ⟨zero_le _,λe1 he1=>⟨C5,λa ha=> ?_⟩⟩⟩⟩;exact q _ _ ((A1 he1 (.tup [])).trans (A1 ha _)) (.lst A2 ((A1 ha _) _ _ A2) .nil)
 | @name z _ hz0=>
  cases ht with
  | @name _ p hp=>
   refine⟨_,rfl,(ixT hp rfl ?_)⟩;refine⟨_,rfl,.inl ⟨rfl,_,rfl,ifF nZ ⟨_,rfl,.inl ⟨rfl,_,rfl,ifT rfl ?_⟩⟩⟩⟩;exact⟨_,rfl,(ixT hp rfl ⟨_,rfl,z,e,ev,v,rfl,he,hz,hz0,q⟩)⟩
 | @fn z b=>
  cases ht with
  | @fn _ _ p u hp hb=>
   obtain⟨pe,us,rfl,hpe,hve⟩:=he;refine⟨_,rfl,(ixT hp rfl ?_)⟩;refine⟨_,rfl,.inl ⟨rfl,_,rfl,ifF nZ ⟨_,rfl,.inl ⟨rfl,_,rfl,ifF nZ ⟨_,rfl,.inl ⟨rfl,_,rfl,ifT rfl ?_⟩⟩⟩⟩⟩⟩;refine⟨_,rfl,(ixT hp rfl ⟨_,rfl,(ixT hp rfl ⟨_,rfl,z4,λr hr0=> ?_⟩)⟩)⟩;have s1:=A1 hr0 (.tup [.str "fn",.str z,u,.ref pe]);exact q _ _ s1 (.fn A2 (hb.mono (A4 s1)) (s1 _ _ hpe) (hve.mono (A4 s1)))
end
noncomputable abbrev DV:Stmt:=_B.top 8
noncomputable abbrev Q9:Stmt:=_B.top 17
noncomputable abbrev QT:List Str:=["term","form"]
theorem sc_parts_of:FnScope QT ["term"] (B3 DV):=fS
noncomputable abbrev DP:List Str:=["program","state","most","term","bound","first"]
theorem sc_onward_from_term:FnScope DP LA (B3 Q9):=fS
theorem E3{n k:Nat}(hk:0<k)(hn:0<n)(o:Option Int):¬(HT.sIx n 0 (some (k:Int))=0/\HT.sIx n n o=n):=by
 rw[HT.sIx_nat];omega
theorem Y6(u:V)(ws:List V):P3 (u::ws) (some 1) none=ws:=by
 unfold P3 HT.sIx;simp
section
variable{P:Program}{w:World}{K:FZ}{mg:Str->Option Value}{base:Heap}{f:Addr}{fd:FuncData}{GO BA OH KU:Addr}{GP BC NV KR:FuncData}
inductive spWaitW(vs:List V)(H:Hp)(Q:VK):Prop
 |mk:∀(t:Tm) (e:Vl) (t1:Tm) (fr:Fr) (tv ev:V),(vs=[tv,ev])->(T1 H t tv)->(EA H e ev)->(Wait e t t1 fr)->(∀u H',Same H H'->FA H' fr u->Q u H')->spWaitW vs H Q
noncomputable def WJ:Sp:=λvs H Q _=>spWaitW vs H Q
theorem ok_waiting_of(F:Fun K "waiting_of" "waiting_of" AL f fd):FnOk P w K mg base CX0 1 f fd TB WJ:=by
 refine F.ok sc_waiting_of (λvs H Q E h=> ?_) (λcdv A outer s H vs Q E hr h=> ?_)
 ·obtain⟨t,e,t1,fr,tv,ev,rfl,_⟩:=h;rfl
 obtain⟨t,e,t1,fr,tv,ev,rfl,ht,he,hx,q⟩:=h;have nd:=sc_waiting_of.nd;have hu:=hr.units0;have z4:(4:Nat)<=sizeLine:=by decide
 have z5:(5:Nat)<=sizeLine:=by decide
 refine⟨_,(A6 (sS 2 nd (ixE K w (pv 0) A3))
   (A6 (B7 (B0 (kEq (K:=K) hu) (pv 2) A7 rfl) (A9 (B4 (A8 (A0 A7 (A0 (ixE K w (pv 0) A3) (A0 (ixE K w (pv 0) A3) (A0 (pv 1) A5))))))) B6)
   (A6 (B7 (B0 (kEq (K:=K) hu) (pv 2) A7 rfl) (A9 (B4 (A8 (A0 A7 (A0 (ixE K w (pv 0) A3) A5))))) B6)
   (A6 (B7 (B0 (kEq (K:=K) hu) (pv 2) A7 rfl) (A9 (B4 (A8 (A0 A7 (A0 (ixE K w (pv 0) A3) (A0 (ixE K w (pv 0) A3) (A0 (pv 1) A5))))))) B6)
   (A6 (B7 (B0 (kEq (K:=K) hu) (pv 2) A7 rfl) (A9 (B4 (A8 (A0 A7 (A0 (ixE K w (pv 0) A3) (A0 (ixE K w (pv 0) A3) (A0 (pv 1) A5))))))) B6)
   (A6 (B7 (B0 (kEq (K:=K) hu) (pv 2) A7 rfl) (A9 (B4 (A8 (A0 A7 (A0 (ixE K w (pv 0) A3) (A0 (pv 1) A5)))))) B6)
   (A9 (B4 (A8 (A0 A7 (A0 (ixE K w (pv 0) A3) (A0 (A8 A5) (A0 (C2 (kSl (K:=K)) (ixE K w (pv 0) A3) (C6 A3) C9) (A0 (pv 1) A5)))))))))))))), ?_⟩
 cases hx with
 | @two s a b=>
  cases ht with
  | @two _ _ _ p u y hp ha hb=>
   refine⟨_,rfl,(ixT hp rfl ?_)⟩;refine⟨_,rfl,.inl ⟨rfl,_,rfl,ifT rfl ?_⟩⟩;refine⟨_,rfl,(ixT hp rfl ⟨_,rfl,(ixT hp rfl ⟨_,rfl,z4,λr hr0=> ?_⟩)⟩)⟩;have s1:=A1 hr0 (.tup [.str "two",.str s,y,ev]);exact q _ _ s1 (.two A2 (hb.mono (A4 s1)) (he.mono (A4 s1)))
 | @one s a=>
  cases ht with
  | @one _ _ p u hp ha=>
   refine⟨_,rfl,(ixT hp rfl ?_)⟩;refine⟨_,rfl,.inl ⟨rfl,_,rfl,ifF nZ ⟨_,rfl,.inl ⟨rfl,_,rfl,ifT rfl ?_⟩⟩⟩⟩;refine⟨_,rfl,(ixT hp rfl ⟨C5,λr hr0=> ?_⟩)⟩;exact q _ _ (A1 hr0 _) (.one A2)
 | @ite c a b=>
  cases ht with
  | @ite _ _ _ p t u y hp hc ha hb=>
   refine⟨_,rfl,(ixT hp rfl ?_)⟩;refine⟨_,rfl,.inl ⟨rfl,_,rfl,ifF nZ ⟨_,rfl,.inl ⟨rfl,_,rfl,ifF nZ ⟨_,rfl,.inl ⟨rfl,_,rfl,ifT rfl ?_⟩⟩⟩⟩⟩⟩;refine⟨_,rfl,(ixT hp rfl ⟨_,rfl,(ixT hp rfl ⟨_,rfl,z4,λr hr0=> ?_⟩)⟩)⟩;have s1:=A1 hr0 (.tup [.str "if",u,y,ev]);exact q _ _ s1 (.ite A2 (ha.mono (A4 s1)) (hb.mono (A4 s1)) (he.mono (A4 s1)))
 | @let_ z a b=>
  cases ht with
  | @let_ _ _ _ p u y hp ha hb=>
   refine⟨_,rfl,(ixT hp rfl ?_)⟩;refine⟨_,rfl,.inl ⟨rfl,_,rfl,ifF nZ ⟨_,rfl,.inl ⟨rfl,_,rfl,ifF nZ ⟨_,rfl,.inl ⟨rfl,_,rfl,ifF nZ ⟨_,rfl,.inl ⟨rfl,_,rfl,ifT rfl ?_⟩⟩⟩⟩⟩⟩⟩⟩;refine⟨_,rfl,(ixT hp rfl ⟨_,rfl,(ixT hp rfl ⟨_,rfl,z4,λr hr0=> ?_⟩)⟩)⟩;have s1:=A1 hr0 (.tup [.str "let",.str z,y,ev]);exact q _ _ s1 (.let_ A2 (hb.mono (A4 s1)) (he.mono (A4 s1)))
 | @do_ g a=>
  cases ht with
  | @do_ _ _ p u y hp ha hb=>
   refine⟨_,rfl,(ixT hp rfl ?_)⟩;refine⟨_,rfl,.inl ⟨rfl,_,rfl,ifF nZ ⟨_,rfl,.inl ⟨rfl,_,rfl,ifF nZ ⟨_,rfl,.inl ⟨rfl,_,rfl,ifF nZ ⟨_,rfl,.inl ⟨rfl,_,rfl,ifF nZ ⟨_,rfl,.inl ⟨rfl,_,rfl,ifT rfl ?_⟩⟩⟩⟩⟩⟩⟩⟩⟩⟩;refine⟨_,rfl,(ixT hp rfl ⟨_,rfl,C7,λr hr0=> ?_⟩)⟩;have s1:=A1 hr0 (.tup [.str "do",y,ev]);exact q _ _ s1 (.do_ A2 (hb.mono (A4 s1)) (he.mono (A4 s1)))
 | @call z a r=>
  cases ht with
  | @call _ _ p p2 us hp hp2 ha=>
   cases ha with
   | @cons _ _ u ws ha hrw=>
    refine⟨_,rfl,(ixT hp rfl ?_)⟩;refine⟨_,rfl,.inl ⟨rfl,_,rfl,ifF nZ ⟨_,rfl,.inl ⟨rfl,_,rfl,ifF nZ ⟨_,rfl,.inl ⟨rfl,_,rfl,ifF nZ ⟨_,rfl,.inl ⟨rfl,_,rfl,ifF nZ ⟨_,rfl,.inl ⟨rfl,_,rfl,ifF nZ ?_⟩⟩⟩⟩⟩⟩⟩⟩⟩⟩;refine⟨_,rfl,(ixT hp rfl ⟨(by show 0<=sizeLine;decide),λe1 he1=> ?_⟩)⟩;have s1:=A1 he1 (.tup []);refine⟨_,rfl,(ixT (s1 _ _ hp) rfl ⟨_,rfl,.inr ⟨p2,u::ws,rfl,SqT.of (s1 _ _ hp2),E3 (by decide) (succ_pos _) _,λe2 he2=> ?_⟩⟩)⟩;rw[show P3 (u::ws) (some 1) none=ws by exact Y6 u ws];have s2:=s1.trans (A1 he2 (.tup ws));refine⟨_,rfl,z5,λr hr0=> ?_⟩;have s3:=s2.trans (A1 hr0 (.tup [.str "call",.str z,.ref e1,.ref e2,ev]));exact q _ _ s3 (.call A2 ((A1 hr0 _) _ _ ((A1 he2 _) _ _ A2)) .nil ((A1 hr0 _) _ _ A2) (hrw.row.imp λ_ _ h=>h.mono (A4 s3)) (he.mono (A4 s3)))
end
noncomputable def PF:List (Str×V):=[("two",.int 2),("one",.int 2),("if",.int 1),("let",.int 2),("fn",.int 2),("do",.int 1)]
section
variable{P:Program}{w:World}{K:FZ}{mg:Str->Option Value}{base:Heap}{f:Addr}{fd:FuncData}{GO BA OH KU:Addr}{GP BC NV KR:FuncData}{pf:Addr}
inductive spPartsW(vs:List V)(H:Hp)(Q:VK):Prop
 |mk:∀(t:Tm) (e:Vl) (t1:Tm) (fr:Fr) (tv:V),(vs=[tv])->(T1 H t tv)->(Wait e t t1 fr)->(∀r H' u us,Same H H'->H' r=some (.lst (u::us))->T1 H' t1 u->Q (.ref r) H')->spPartsW vs H Q
noncomputable def RW:Sp:=λvs H Q _=>spPartsW vs H Q
theorem ok_parts_of(F:Fun K "parts_of" "parts_of" DV f fd)(B:_B.NoG mg)(TD:TopD w K pf PF)(m_PARTS_FROM:mg "PARTS_FROM"=some (.ref pf)):FnOk P w K mg base CX0 1 f fd ["term"] RW:=by
 refine F.ok sc_parts_of (λvs H Q E h=> ?_) (λcdv A outer s H vs Q E hr h=> ?_)
 ·obtain⟨t,e,t1,fr,tv,rfl,_⟩:=h;rfl
 obtain⟨t,e,t1,fr,tv,rfl,ht,hx,q⟩:=h;have nd:=sc_parts_of.nd;have hu:=hr.units0;refine⟨_,(A6 (sS 1 nd (ixE K w (pv 0) A3))
   (A6 (B7 (B0 (kEq (K:=K) hu) (pv 1) A7 rfl) (A9 (B4 (F6 (LS (K:=K)) rfl B.list_ U4 (A0 (ixE K w (pv 0) A3) A5)))) B6)
   (A6 (B7 (B0 (kIn (K:=K) (w:=w)) (pv 1) (CJ (v:=.ref _) rfl m_PARTS_FROM rfl) rfl) (A9 (B4 (F6 (LS (K:=K)) rfl B.list_ U4 (A0 (C2 (kSl (K:=K)) (pv 0) (C6 (ixE K w (CJ (v:=.ref _) rfl m_PARTS_FROM rfl) (pv 1))) C9) A5)))) B6)
   (A9 (B4 (K1 A5)))))), ?_⟩
 cases hx with
 | @call z a r=>
  cases ht with
  | @call _ _ p p2 us hp hp2 ha=>
   cases ha with
   | @cons _ _ u ws ha hrw=>
    refine⟨_,rfl,(ixT hp rfl ?_)⟩;refine⟨_,rfl,.inl ⟨rfl,_,rfl,ifT (by decide) ?_⟩⟩;refine⟨_,rfl,(ixT hp rfl ⟨_,_,rfl,.inr (SqT.of hp2),λl hl=> ?_⟩)⟩;have s1:=A1 hl (.lst (u::ws));exact q l _ u ws s1 A2 (ha.mono (A4 s1))
 |two=>
  cases ht with
  | @two _ _ _ p u y hp ha hb=>
   refine⟨_,rfl,(ixT hp rfl ?_)⟩;refine⟨_,rfl,.inl ⟨rfl,_,rfl,ifF (by decide) ?_⟩⟩;refine⟨_,rfl,.inr (.inr ⟨_,_,PF,rfl,rfl,TD,_,rfl,ifT (by decide) ?_⟩)⟩;refine⟨_,rfl,_,rfl,.inr (.inr (.inr ⟨_,_,PF,_,rfl,rfl,TD,rfl,_,rfl,.inr ⟨p,_,rfl,SqT.of hp,E3 (by decide) (succ_pos _) _,λp3 hp3=> ?_⟩⟩))⟩;refine⟨_,_,rfl,.inr (SqT.of A2),λl hl=> ?_⟩;have s1:=(A1 hp3 (.tup [u,y])).trans (A1 hl (.lst [u,y]));exact q l _ u [y] s1 A2 (ha.mono (A4 s1))
 |one=>
  cases ht with
  | @one _ _ p u hp ha=>
   refine⟨_,rfl,(ixT hp rfl ?_)⟩;refine⟨_,rfl,.inl ⟨rfl,_,rfl,ifF (by decide) ?_⟩⟩;refine⟨_,rfl,.inr (.inr ⟨_,_,PF,rfl,rfl,TD,_,rfl,ifT (by decide) ?_⟩)⟩;refine⟨_,rfl,_,rfl,.inr (.inr (.inr ⟨_,_,PF,_,rfl,rfl,TD,rfl,_,rfl,.inr ⟨p,_,rfl,SqT.of hp,E3 (by decide) (succ_pos _) _,λp3 hp3=> ?_⟩⟩))⟩;refine⟨_,_,rfl,.inr (SqT.of A2),λl hl=> ?_⟩;have s1:=(A1 hp3 (.tup [u])).trans (A1 hl (.lst [u]));exact q l _ u [] s1 A2 (ha.mono (A4 s1))
 |let_=>
  cases ht with
  | @let_ _ _ _ p u y hp ha hb=>
   refine⟨_,rfl,(ixT hp rfl ?_)⟩;refine⟨_,rfl,.inl ⟨rfl,_,rfl,ifF (by decide) ?_⟩⟩;refine⟨_,rfl,.inr (.inr ⟨_,_,PF,rfl,rfl,TD,_,rfl,ifT (by decide) ?_⟩)⟩;refine⟨_,rfl,_,rfl,.inr (.inr (.inr ⟨_,_,PF,_,rfl,rfl,TD,rfl,_,rfl,.inr ⟨p,_,rfl,SqT.of hp,E3 (by decide) (succ_pos _) _,λp3 hp3=> ?_⟩⟩))⟩;refine⟨_,_,rfl,.inr (SqT.of A2),λl hl=> ?_⟩;have s1:=(A1 hp3 (.tup [u,y])).trans (A1 hl (.lst [u,y]));exact q l _ u [y] s1 A2 (ha.mono (A4 s1))
 |do_=>
  cases ht with
  | @do_ _ _ p u y hp ha hb=>
   refine⟨_,rfl,(ixT hp rfl ?_)⟩;refine⟨_,rfl,.inl ⟨rfl,_,rfl,ifF (by decide) ?_⟩⟩;refine⟨_,rfl,.inr (.inr ⟨_,_,PF,rfl,rfl,TD,_,rfl,ifT (by decide) ?_⟩)⟩;refine⟨_,rfl,_,rfl,.inr (.inr (.inr ⟨_,_,PF,_,rfl,rfl,TD,rfl,_,rfl,.inr ⟨p,_,rfl,SqT.of hp,E3 (by decide) (succ_pos _) _,λp3 hp3=> ?_⟩⟩))⟩;refine⟨_,_,rfl,.inr (SqT.of A2),λl hl=> ?_⟩;have s1:=(A1 hp3 (.tup [u,y])).trans (A1 hl (.lst [u,y]));exact q l _ u [y] s1 A2 (ha.mono (A4 s1))
 |ite=>
  cases ht with
  | @ite _ _ _ p t u y hp hc ha hb=>
   refine⟨_,rfl,(ixT hp rfl ?_)⟩;refine⟨_,rfl,.inl ⟨rfl,_,rfl,ifF (by decide) ?_⟩⟩;refine⟨_,rfl,.inr (.inr ⟨_,_,PF,rfl,rfl,TD,_,rfl,ifT (by decide) ?_⟩)⟩;refine⟨_,rfl,_,rfl,.inr (.inr (.inr ⟨_,_,PF,_,rfl,rfl,TD,rfl,_,rfl,.inr ⟨p,_,rfl,SqT.of hp,E3 (by decide) (succ_pos _) _,λp3 hp3=> ?_⟩⟩))⟩;refine⟨_,_,rfl,.inr (SqT.of A2),λl hl=> ?_⟩;have s1:=(A1 hp3 (.tup [t,u,y])).trans (A1 hl (.lst [t,u,y]));exact q l _ t [u,y] s1 A2 (hc.mono (A4 s1))
inductive spOTW (vs:List V) (H:Hp) (Q:VK):Prop
 |mk:∀(t:Tm) (e:Vl) (pl:List Fr) (c d:Int) (r:Res) (D:List Dn) (most:Int) (gv sv:V),(vs=[gv,sv,.int most])->(StA H ⟨.term t e,pl,c,d⟩ sv)->(PgA H D gv)->(D.length<=1000)->(pl.length<=10000)->(L7 e<=1000)->(Stp D most ⟨.term t e,pl,c,d⟩ r)->(∀u H',Same H H'->ReA H' r u->Q u H')->spOTW vs H Q
noncomputable def ZO:Sp:=λvs H Q _=>spOTW vs H Q
noncomputable abbrev wo:List V:=[.str "number",.str "truth",.str "none",.str "name",.str "fn"]
noncomputable def tmW:Tm->Str
 | .num _=> "number"| .tru _=> "truth"| .non=> "none"| .name _=> "name"| .fn _ _=> "fn"| .two _ _ _=> "two"| .one _ _=> "one"| .ite _ _ _=> "if"| .let_ _ _ _=> "let"| .do_ _ _=> "do"|_=> "call"
theorem TA.word{H:Hp}{t:Tm}{v:V}(h:T1 H t v):∃a rest,v=.ref a/\H a=some (.tup (.str (tmW t)::rest)):=by
 cases h<;>exact⟨_,_,rfl,by assumption⟩
theorem ZZ{e:Vl}{t:Tm}{v:Vl}(h:Once e t v):inV (.str (tmW t)) wo=true:=by cases h<;>rfl
theorem agZ{e:Vl}{t t1:Tm}{fr:Fr}(h:Wait e t t1 fr):inV (.str (tmW t)) wo=false:=by cases h<;>rfl
inductive spIFW (vs:List V) (H:Hp) (Q:VK):Prop
 |mk:∀(D:List Dn) (d:Dn) (z:Str) (xs:List Vl) (us:List V) (r:List Fr) (calls deep most:Int) (gv rv:V) (a:Addr),(vs=[gv,.str z,.ref a,rv,.int most])->(PgA H D gv)->(D.length<=1000)->((D.find? λd=>d.name==z)=some d)->(H a=some (.tup us))->(All2 (V1 H) xs us)->(d.pars.length=xs.length)->(xs.length<=1000)->(RsA H r calls deep rv)->(r.length<=10000)->(∀v H',Same H H'->ReA H' (FT most d.body (env d.pars xs) r calls deep) v->Q v H')->spIFW vs H Q
noncomputable def bkZ:Sp:=λvs H Q _=>spIFW vs H Q
theorem ok_onward_from_term(F:Fun K "onward_from_term" "onward_from_term" Q9 f fd)(B:_B.NoG mg)
  (W4:Cn P w K mg base CX0 2 "value_at_once" TB VY)
  (DI:Cn P w K mg base CX0 1 "parts_of" ["term"] RW)
  (AI:Cn P w K mg base CX0 1 "waiting_of" TB WJ)
  (M8:Cn P w K mg base CX0 2 "into_function" aeZ bkZ):
  FnOk P w K mg base CX0 3 f fd LA ZO:=by
 refine F.ok sc_onward_from_term (λvs H Q E h=> ?_) (λcdv A outer s H vs Q E hr h=> ?_)
 ·obtain⟨t,e,pl,c,d,r,D,most,gv,sv,rfl,_⟩:=h;rfl
 obtain⟨t,e,pile,calls,deep,r,D,most,gv,sv,rfl,⟨p,fv,lv,rfl,hp,hf,hl⟩,hg,hgl,hz,hez,hst,q⟩:=h;have hp:H p=some (.tup [fv,lv,.int calls,.int deep]):=hp;have hl:PiA H pile lv:=hl;obtain⟨pt,tv,ev,rfl,hpt,ht,he⟩:∃p u w,fv=.ref p/\H p=some (.tup [.str "term",u,w])/\T1 H t u/\EA H e w:=by
  cases hf with
  |term h1 h2 h3=>exact⟨_,_,_,rfl,h1,h2,h3⟩
 have nd:=sc_onward_from_term.nd;have hu:=hr.units0;have z5:(5:Nat)<=sizeLine:=by decide
 refine⟨_,(A6 (sS 3 nd (ixE K w (ixE K w (pv 1) A3) A3))
   (A6 (sS 4 nd (ixE K w (ixE K w (pv 1) A3) A3))
   (A6 (B7 (B0 (kIn (K:=K) (w:=w)) (ixE K w (pv 3) A3) (A8 (A0 A7 (A0 A7 (A0 A7 (A0 A7 (A0 A7 A5)))))) rfl) (A9 (B4 (B5 (E4 (K:=K)) (A8 (A0 (A8 (A0 A7 (A0 (cC W4 hr (A0 (pv 3) (A0 (pv 4) A5))) A5))) A5)) (C2 (kSl (K:=K)) (pv 1) (C6 A3) C9)))) B6)
   (A6 (D7 (B7 (PW.pt (N1 (B0 (kEq (K:=K) hu) (ixE K w (pv 3) A3) A7 rfl) (M7 (B0 (kEq (K:=K) hu) (kL K B.len_ (ixE K w (pv 3) A3)) A3 rfl)))) (A9 (B4 (cC M8 hr (A0 (pv 0) (A0 (ixE K w (pv 3) A3) (A0 (A8 A5) (A0 (C2 (kSl (K:=K)) (pv 1) (C6 A3) C9) (A0 (pv 2) A5)))))))) B6))
   (A6 (sS 5 nd (ixE K w (cC DI hr (A0 (pv 3) A5)) A3))
   (A9 (B4 (B5 (E4 (K:=K)) (A8 (A0 (A8 (A0 A7 (A0 (pv 5) (A0 (pv 4) A5)))) (A0 (B5 (E4 (K:=K)) (ixE K w (pv 1) A3) (A8 (A0 (cC AI hr (A0 (pv 3) (A0 (pv 4) A5))) A5))) A5))) (C2 (kSl (K:=K)) (pv 1) (C6 A3) C9))))))))), ?_⟩
 refine⟨_,rfl,(ixT hp rfl (ixT hpt rfl ?_))⟩;refine⟨_,rfl,(ixT hp rfl (ixT hpt rfl ?_))⟩;obtain⟨a,rest,rfl,ha⟩:=ht.word;have hat:atI (V.str (tmW t)::rest) ((0:Nat):Int)=some (.str (tmW t)):=D5 rfl;refine⟨_,rfl,(ixT ha hat ⟨z5,λb hb=> .inr (.inl ⟨b,wo,rfl,.inr (SqT.of A2),rfl,rfl,_,rfl, ?_⟩)⟩)⟩;have s1:=A1 hb (.tup wo);show if inV (.str (tmW t)) wo=true then _ else _
 have rest:∀ {H':Hp},Mo H H'->H' p=some (.tup [.ref pt,lv,.int calls,.int deep]):=λm=>m _ _ hp;cases hst with
 | @once _ _ v _ _ _ hv=>
  refine ifT (ZZ hv) ?_;refine⟨_,rfl,_,rfl,t,e,v,.ref a,ev,rfl,ht.mono (A4 s1),he.mono (A4 s1),hez,hv,λu H2 s2 hv2=>⟨C5,λa1 ha1=>⟨K0,λa2 ha2=> ?_⟩⟩⟩;have s3:=A1 ha1 (.tup [.str "value",u]);have s4:=A1 ha2 (.tup [.ref a1]);have s14:=s1.trans (s2.trans (s3.trans s4));refine⟨_,rfl,_,rfl,.inr ⟨p,_,rfl,SqT.of (s14 _ _ hp),E3 (by decide) (succ_pos _) _,λa3 ha3=> ?_⟩⟩;have s5:=A1 ha3 (.tup [lv,.int calls,.int deep]);refine .inr (.inl ⟨a2,a3,[.ref a1],[lv,.int calls,.int deep],rfl,rfl,SqT.of (s5 _ _ A2),SqT.of A2,cons_ne_nil _ _,(by show 4<=sizeLine;decide),λz=>absurd z (cons_ne_nil _ _),λ_ r hr0=> ?_⟩);have s6:=A1 hr0 (.tup [.ref a1,lv,.int calls,.int deep]);have sA:=s14.trans (s5.trans s6);exact q _ _ sA ⟨r,.ref a1,lv,rfl,A2,.val ((s4.trans (s5.trans s6)) _ _ A2) (hv2.mono (A4 (s3.trans (s4.trans (s5.trans s6))))),hl.mono (A4 sA)⟩
 | @call0 z dn _ _ _ _ hd hp0=>
  refine ifF (by show¬inV (.str "call") wo=true;decide) ?_;cases ht with
  | @call _ _ _ p2 us hpc hp2 hrw=>
   cases hrw;rw[ha]at hpc;cases hpc;refine⟨fun σ H'=>False, ?_,fun σ H' z=>z.elim⟩;refine⟨_,rfl,(ixT (s1 _ _ ha) hat (.inl ⟨rfl,_,rfl, ?_⟩))⟩;refine ifT rfl ⟨_,rfl,(ixT (s1 _ _ ha) rfl ⟨_,_,rfl,.inr ⟨_,SqT.of (s1 _ _ hp2),rfl⟩,.inl ⟨rfl,_,rfl,ifT (by decide) ?_⟩⟩)⟩;refine⟨_,rfl,_,rfl,(ixT (s1 _ _ ha) rfl ⟨zero_le _,λe1 he1=> ?_⟩)⟩;have s2:=s1.trans (A1 he1 (.tup []));refine⟨_,rfl,_,rfl,.inr ⟨p,_,rfl,SqT.of (s2 _ _ hp),E3 (by decide) (succ_pos _) _,λa3 ha3=> ?_⟩⟩;have s3:=s2.trans (A1 ha3 (.tup [lv,.int calls,.int deep]));refine⟨_,rfl,D,dn,z,[],[],pile,calls,deep,most,gv,.ref a3,e1,rfl,hg.mono (A4 s3),hgl,hd,(A1 ha3 _) _ _ A2,.nil,by rw[hp0];rfl,zero_le _,⟨a3,lv,rfl,A2,hl.mono (A4 s3)⟩,hz,λv H' sm h=>q _ _ (s3.trans sm) ?_⟩;rw[hp0]at h;exact h
 | @wait _ _ t1 fr _ _ _ hx=>
  refine ifF (by rw[agZ hx];exact nZ) ?_;have ht1:=ht.mono (A4 s1);have he1:=he.mono (A4 s1);have ha1':=s1 _ _ ha;have hp1:=s1 _ _ hp;have hl1:=hl.mono (A4 s1);have q1:∀u H',Same (upd H b (.tup wo)) H'->ReA H' (.st ⟨.term t1 e,fr::pile,calls,deep⟩) u->Q u H':=λu H' sm h=>q u H' (s1.trans sm) h;clear rest q hb ht he ha hp hl hpt hg
  change Same H (upd H b (.tup wo))at s1
  generalize upd H b (.tup wo)=H1 at s1 ht1 he1 ha1' hp1 hl1 q1⊢;refine⟨fun σ H'=>σ=[some gv,some (.ref p),some (.int most),some (.ref a),some ev,none]/\H1=H', ?_, ?_⟩
  ·refine⟨_,rfl,(ixT ha1' hat (.inl ⟨rfl,_,rfl, ?_⟩))⟩;cases hx with
   |call=>
    cases ht1 with
    |call hp' hp2 hrw=>
     cases hrw;exact ifT rfl ⟨_,rfl,(ixT hp' rfl ⟨_,_,rfl,.inr ⟨_,SqT.of hp2,rfl⟩,.inl ⟨rfl,_,rfl,ifF (by simp;omega) ⟨rfl,rfl⟩⟩⟩)⟩
   |_=>exact ifF nZ (ifF nZ ⟨rfl,rfl⟩)
  rintro σ H' ⟨rfl,rfl⟩;refine⟨_,rfl,t,e,t1,fr,.ref a,rfl,ht1,hx,λr H3 u us s3 hr3 hu3=>(ixL hr3 (show atI (u::us) ((0:Nat):Int)=some u from D5 rfl) ?_)⟩;refine⟨_,rfl,_,rfl,C7,λa1 ha1=> ?_⟩;have s4:=A1 ha1 (.tup [.str "term",u,ev]);have s34:=s3.trans s4;refine⟨_,rfl,(ixT (s34 _ _ hp1) rfl ⟨_,rfl,_,rfl,t,e,t1,fr,.ref a,ev,rfl,ht1.mono (A4 s34),he1.mono (A4 s34),hx,λu2 H4 s5 hf4=>⟨K0,λa2 ha2=> ?_⟩⟩)⟩;have s6:=A1 ha2 (.tup [u2]);have s36:=s34.trans (s5.trans s6);refine .inr (P4 (fr:=fr) (hl1.mono (A4 s36)) (hf4.mono (A4 s6)) A2 (by omega) λl5 H5 s7 hp5=>⟨C5,λa3 ha3=> ?_⟩);have s8:=A1 ha3 (.tup [.ref a1,l5]);have s38:=s36.trans (s7.trans s8);refine⟨_,rfl,_,rfl,.inr ⟨p,_,rfl,SqT.of (s38 _ _ hp1),E3 (by decide) (succ_pos _) _,λa4 ha4=> ?_⟩⟩;have s9:=A1 ha4 (.tup [.int calls,.int deep]);refine .inr (.inl ⟨a3,a4,[.ref a1,l5],[.int calls,.int deep],rfl,rfl,SqT.of (s9 _ _ A2),SqT.of A2,cons_ne_nil _ _,(by show 4<=sizeLine;decide),λz=>absurd z (cons_ne_nil _ _),λ_ r2 hr2=> ?_⟩);have s10:=A1 hr2 (.tup [.ref a1,l5,.int calls,.int deep]);have sA:=s38.trans (s9.trans s10);have sB:=s5.trans (s6.trans (s7.trans (s8.trans (s9.trans s10))));exact q1 _ _ sA ⟨r2,.ref a1,l5,rfl,A2,.term (sB _ _ A2) (hu3.mono (A4 (s4.trans sB))) (he1.mono (A4 sA)),hp5.mono (A4 (s8.trans (s9.trans s10)))⟩
end
noncomputable abbrev X8:Stmt:=_B.top 22
noncomputable abbrev EC:Stmt:=_B.top 23
noncomputable abbrev IG:List Str:=["top","value"]
theorem sc_told_at_once:FnScope IG a8Z (B3 X8):=fS
noncomputable abbrev QC:List Str:=["word","value","items"]
theorem sc_one_told:FnScope QC ["word","value"] (B3 EC):=fS
noncomputable def BdV:Vl->Prop
 | .int n=> -GR<=n/\n<=GR
 |_=>True
theorem OO{n:Int}(h: -GR<=n/\n<=GR):n.natAbs<2^300:=by
 have e:(10000000000000000000000000000000000000000:Nat)<2^300:=by decide +kernel
 have h1: -(10000000000000000000000000000000000000000:Int)<=n:=h.1;have h2:n<=(10000000000000000000000000000000000000000:Int):=h.2;generalize 2^300=k at e⊢;omega
theorem PQ{a b:Int}(h: -GR<=a/\a<=GR)(h': -GR<=b/\b<=GR):IntMulOk a b:=IntMulOk.of_bits (Nat.le_trans (intBits_le_iff.mpr (OO h)) (by decide)) (Nat.le_trans (intBits_le_iff.mpr (OO h')) (by decide))
theorem YD{n:Int}(h: -GR<=n/\n<=GR):n.natAbs.log2<9000:=by
 by_cases e:n.natAbs=0
 ·rw[e];decide +kernel
 ·have:=(Nat.log2_lt e).mpr (OO h);omega
theorem cuZ{k:Nat}(h:k<6):sg k=_N.sg k:=by
 match k,h with
 |0,_|1,_|2,_|3,_|4,_|5,_=>rfl
theorem ajZ{H:Hp}{n:Int}{r:Addr}(h:H r=some (.tup (_N.bnd n))):OuA H (HY n) (.ref r):=by
 unfold _N.bnd at h;unfold HY;by_cases c:n>GR\/n< -GR
 ·rw[if_pos c]at h;rw[if_pos c];exact .ref h
 ·rw[if_neg c]at h;rw[if_neg c];exact .val h .int
theorem bnZ{H:Hp}{k:Nat}{a b:Int}{r:Addr}(hk:k<6)(h:H r=some (.tup (_N.tw k a b))):OuA H (tw k a b) (.ref r):=by
 match k,hk with
 |0,_|1,_|2,_=>exact ajZ h
 |3,_=>exact .val h .bl
 |4,_=>
  refine .val h ?_;rw[show decide (V.int a=V.int b)=decide (a=b) by by_cases c:a=b<;>simp[c]];exact .bl
 |5,_=>
  have h:H r=some (.tup (_N.quo a b)):=h;show OuA H (if b=0 then .ref "nought"else .val (.int (a.fdiv b))) _;unfold _N.quo at h;by_cases c:b=0
  ·rw[if_pos c]at h;rw[if_pos c];exact .ref h
  ·rw[if_neg c]at h;rw[if_neg c];exact .val h .int
section
variable{P:Program}{w:World}{K:FZ}{mg:Str->Option Value}{base:Heap}{f:Addr}{fd:FuncData}{NX JI JK AZ OG:Addr}{OD JH JJ BB NZ:FuncData}{pf:Addr}
inductive spPushW(vs:List V)(H:Hp)(Q:VK):Prop
 |mk:∀(fo:Fo) (fr:Fr) (r:List Fr) (calls deep:Int) (fv wv rv:V),(vs=[fv,wv,rv])->(FoA H fo fv)->(FA H fr wv)->(RsA H r calls deep rv)->(r.length<=10000)->(∀u H',Same H H'->StA H' ⟨fo,fr::r,calls,deep⟩ u->Q u H')->spPushW vs H Q
noncomputable def YC:Sp:=λvs H Q _=>spPushW vs H Q
theorem ok_pushed(F:Fun K "pushed" "pushed" IQ f fd):FnOk P w K mg base CX0 1 f fd bgZ YC:=by
 refine F.ok sc_pushed (λvs H Q E h=> ?_) (λcdv A outer s H vs Q E hr h=> ?_)
 ·obtain⟨fo,fr,r,calls,deep,fv,wv,rv,rfl,_⟩:=h;rfl
 obtain⟨fo,fr,r,calls,deep,fv,wv,rv,rfl,hf,hw,⟨p,lv,rfl,hp,hl⟩,hz,q⟩:=h;have nd:=sc_pushed.nd;refine⟨_,(A9 (B4 (B5 (E4 (K:=K)) (A8 (A0 (pv 0) (A0 (B5 (E4 (K:=K)) (ixE K w (pv 2) A3) (A8 (A0 (pv 1) A5))) A5))) (C2 (kSl (K:=K)) (pv 2) (C6 A3) C9)))), ?_⟩;refine⟨_,rfl,_,rfl,(ixT hp rfl ⟨_,rfl,K0,λa2 ha2=> ?_⟩)⟩;have s1:=A1 ha2 (.tup [wv]);refine .inr (P4 (fr:=fr) (hl.mono (A4 s1)) (hw.mono (A4 s1)) A2 (by omega) λl5 H5 s2 hp5=>⟨C5,λa3 ha3=> ?_⟩);have s3:=A1 ha3 (.tup [fv,l5]);have s13:=s1.trans (s2.trans s3);refine⟨_,rfl,_,rfl,.inr ⟨p,_,rfl,SqT.of (s13 _ _ hp),E3 (by decide) (succ_pos _) _,λa4 ha4=> ?_⟩⟩;have s4:=A1 ha4 (.tup [.int calls,.int deep]);refine .inr (.inl ⟨a3,a4,[fv,l5],[.int calls,.int deep],rfl,rfl,SqT.of (s4 _ _ A2),SqT.of A2,cons_ne_nil _ _,(by show 4<=sizeLine;decide),λz=>absurd z (cons_ne_nil _ _),λ_ r2 hr2=> ?_⟩);have s5:=A1 hr2 (.tup [fv,l5,.int calls,.int deep]);have sA:=s13.trans (s4.trans s5);exact q _ _ sA ⟨r2,fv,l5,rfl,A2,hf.mono (A4 sA),hp5.mono (A4 (s3.trans (s4.trans s5)))⟩
inductive spOneW (vs:List V) (H:Hp) (Q:VK):Prop
 |mk:∀(s:Str) (x:Vl) (o:Out) (v:V),(vs=[.str s,v])->(V1 H x v)->(One s x o)->(∀u H',Same H H'->OuA H' o u->Q u H')->spOneW vs H Q
noncomputable def aMZ:Sp:=λvs H Q _=>spOneW vs H Q
theorem ok_one_told(F:Fun K "one_told" "one_told" EC f fd)(B:_B.NoG mg):FnOk P w K mg base CX0 1 f fd ["word","value"] aMZ:=by
 refine F.ok sc_one_told (λvs H Q E h=> ?_) (λcdv A outer s H vs Q E hr h=> ?_)
 ·obtain⟨s,x,o,v,rfl,_⟩:=h;rfl
 obtain⟨s,x,o,v,rfl,hx,ho,q⟩:=h;have nd:=sc_one_told.nd;have hu:=hr.units0;refine⟨_,(A6 (B7 (B0 (kEq (K:=K) hu) (pv 0) A7 rfl) (A9 (B4 (A8 (A0 A7 (A0 (YI (pv 1)) A5))))) B6)
   (A6 (sS 2 nd (ixE K w (pv 1) A3))
   (A6 (B7 (B0 (kEq (K:=K) hu) (pv 0) A7 rfl) (A9 (B4 (A8 (A0 A7 (A0 (N4 (kEq (K:=K) hu) (kL K B.len_ (pv 2)) A3 rfl) A5))))) B6)
   (A6 (B7 (B0 (kEq (K:=K) hu) (kL K B.len_ (pv 2)) A3 rfl) (A9 (B4 (A8 (A0 A7 (A0 (pv 0) A5))))) B6)
   (A6 (B7 (B0 (kEq (K:=K) hu) (pv 0) A7 rfl) (A9 (B4 (A8 (A0 A7 (A0 (ixE K w (pv 2) A3) A5))))) B6)
   (A9 (B4 (A8 (A0 A7 (A0 (A8 (A0 A7 (A0 (C2 (kSl (K:=K)) (pv 2) (C6 A3) C9) A5))) A5)))))))))), ?_⟩
 cases ho with
 | @not b=>
  cases hx;exact⟨_,rfl,.inl ⟨rfl,_,rfl,ifT rfl ⟨_,rfl,_,rfl,C5,λa ha=>q _ _ (A1 ha _) (.val A2 .bl)⟩⟩⟩
 |emptyT=>
  cases hx with
  | @lst _ p p2 us hp hq hr'=>
   cases hr';refine⟨_,rfl,.inl ⟨rfl,_,rfl,ifF nZ ⟨_,rfl,(ixT hp rfl ?_)⟩⟩⟩;refine⟨_,rfl,.inl ⟨rfl,_,rfl,ifT rfl ?_⟩⟩;exact⟨_,rfl,_,_,rfl,.inr ⟨_,SqT.of hq,rfl⟩,.inl ⟨rfl,C5,λa ha=>q _ _ (A1 ha _) (.val A2 .bl)⟩⟩
 |emptyF=>
  cases hx with
  | @lst _ p p2 us hp hq hr'=>
   cases hr' with
   | @cons _ _ y ys h1 h2=>
    refine⟨_,rfl,.inl ⟨rfl,_,rfl,ifF nZ ⟨_,rfl,(ixT hp rfl ?_)⟩⟩⟩;refine⟨_,rfl,.inl ⟨rfl,_,rfl,ifT rfl ?_⟩⟩;refine⟨_,rfl,_,_,rfl,.inr ⟨_,SqT.of hq,rfl⟩,.inl ⟨rfl,C5,λa ha=>q _ _ (A1 ha _) (.val A2 ?_)⟩⟩;rw[show decide (V.int ((y::ys).length:Int)=V.int 0)=false by simp;omega];exact .bl
 |headN=>
  cases hx with
  | @lst _ p p2 us hp hq hr'=>
   cases hr';refine⟨_,rfl,.inl ⟨rfl,_,rfl,ifF nZ ⟨_,rfl,(ixT hp rfl ?_)⟩⟩⟩;refine⟨_,rfl,.inl ⟨rfl,_,rfl,ifF nZ ⟨_,rfl,_,_,rfl,.inr ⟨_,SqT.of hq,rfl⟩,.inl ⟨rfl,_,rfl,ifT (by decide) ?_⟩⟩⟩⟩;exact⟨_,rfl,C5,λa ha=>q _ _ (A1 ha _) (.ref A2)⟩
 |tailN=>
  cases hx with
  | @lst _ p p2 us hp hq hr'=>
   cases hr';refine⟨_,rfl,.inl ⟨rfl,_,rfl,ifF nZ ⟨_,rfl,(ixT hp rfl ?_)⟩⟩⟩;refine⟨_,rfl,.inl ⟨rfl,_,rfl,ifF nZ ⟨_,rfl,_,_,rfl,.inr ⟨_,SqT.of hq,rfl⟩,.inl ⟨rfl,_,rfl,ifT (by decide) ?_⟩⟩⟩⟩;exact⟨_,rfl,C5,λa ha=>q _ _ (A1 ha _) (.ref A2)⟩
 |head=>
  cases hx with
  | @lst _ p p2 us hp hq hr'=>
   cases hr' with
   | @cons _ _ y ys h1 h2=>
    refine⟨_,rfl,.inl ⟨rfl,_,rfl,ifF nZ ⟨_,rfl,(ixT hp rfl ?_)⟩⟩⟩;refine⟨_,rfl,.inl ⟨rfl,_,rfl,ifF nZ ⟨_,rfl,_,_,rfl,.inr ⟨_,SqT.of hq,rfl⟩,.inl ⟨rfl,_,rfl,ifF (by simp;omega) ?_⟩⟩⟩⟩;refine⟨_,rfl,.inl ⟨rfl,_,rfl,ifT rfl ?_⟩⟩;refine⟨_,rfl,(ixT hq (show atI (y::ys) ((0:Nat):Int)=some y from D5 rfl) ⟨C5,λa ha=>q _ _ (A1 ha _) (.val A2 (h1.mono (A4 (A1 ha _))))⟩)⟩
 |tail=>
  cases hx with
  | @lst _ p p2 us hp hq hr'=>
   cases hr' with
   | @cons _ _ y ys h1 h2=>
    refine⟨_,rfl,.inl ⟨rfl,_,rfl,ifF nZ ⟨_,rfl,(ixT hp rfl ?_)⟩⟩⟩;refine⟨_,rfl,.inl ⟨rfl,_,rfl,ifF nZ ⟨_,rfl,_,_,rfl,.inr ⟨_,SqT.of hq,rfl⟩,.inl ⟨rfl,_,rfl,ifF (by simp;omega) ?_⟩⟩⟩⟩;refine⟨_,rfl,.inl ⟨rfl,_,rfl,ifF nZ ?_⟩⟩;refine⟨_,rfl,_,rfl,.inr ⟨p2,_,rfl,SqT.of hq,E3 (by decide) (succ_pos _) _,λp3 hp3=>⟨C5,λa ha=>⟨C5,λa2 ha2=> ?_⟩⟩⟩⟩;rw[show P3 (y::ys) (some 1) none=ys by exact Y6 y ys]at ha ha2⊢;have s1:=A1 hp3 (.tup ys);have s2:=A1 ha (.tup [.str "list",.ref p3]);have s3:=A1 ha2 (.tup [.str "value",.ref a]);exact q _ _ (s1.trans (s2.trans s3)) (.val A2 (.lst (s3 _ _ A2) ((s2.trans s3) _ _ A2) (h2.mono (A4 (s1.trans (s2.trans s3))))))
inductive spToldW (vs:List V) (H:Hp) (Q:VK):Prop
 |mk:∀(fr:Fr) (x:Vl) (o:Out) (t v:V),(vs=[t,v])->(FA H fr t)->(V1 H x v)->(BdV x)->(((∃s,fr=.one s/\One s x o)\/∃s a,fr=.then_ s a/\BdV a/\Two s a x o))->((∀r,x=.lst r->L7 r<=10000))->(∀u H',Same H H'->OuA H' o u->Q u H')->spToldW vs H Q
noncomputable def LH:Sp:=λvs H Q _=>spToldW vs H Q
theorem ok_told_at_once(F:Fun K "told_at_once" "told_at_once" X8 f fd)
  (DE:Cn P w K mg base CX0 2 "two_told" UA _N.spTwo)
  (CW:Cn P w K mg base CX0 1 "one_told" ["word","value"] aMZ):
  FnOk P w K mg base CX0 3 f fd a8Z LH:=by
 refine F.ok sc_told_at_once (λvs H Q E h=> ?_) (λcdv A outer s H vs Q E hr h=> ?_)
 ·obtain⟨fr,x,o,t,v,rfl,_⟩:=h;rfl
 obtain⟨fr,x,o,t,v,rfl,hf,hx,hbx,ho,hlen,q⟩:=h;have nd:=sc_told_at_once.nd;have hu:=hr.units0;refine⟨_,(A6 (B7 (B0 (kEq (K:=K) hu) (ixE K w (pv 0) A3) A7 rfl) (A9 (B4 (cC CW hr (A0 (ixE K w (pv 0) A3) (A0 (pv 1) A5))))) B6)
   (A6 (B7 (B0 (kEq (K:=K) hu) (ixE K w (pv 0) A3) A7 rfl) (A9 (B4 (A8 (A0 A7 (A0 (A8 (A0 A7 (A0 (B5 (E4 (K:=K)) (A8 (A0 (ixE K w (pv 0) A3) A5)) (ixE K w (pv 1) A3)) A5))) A5))))) B6)
   (A9 (B4 (cC DE hr (A0 (ixE K w (pv 0) A3) (A0 (ixE K w (pv 0) A3) (A0 (pv 1) A5)))))))), ?_⟩
 rcases ho with⟨s,rfl,ho⟩|⟨s,a,rfl,hba,ho⟩
 ·cases hf with
  | @one _ p hp=>
   refine⟨_,rfl,(ixT hp rfl (.inl ⟨rfl,_,rfl,ifT rfl ?_⟩))⟩;exact⟨_,rfl,(ixT hp rfl ⟨_,rfl,s,x,o,v,rfl,hx,ho,q⟩)⟩
 ·cases hf with
  | @then_ _ _ p u hp hau=>
   refine⟨_,rfl,(ixT hp rfl (.inl ⟨rfl,_,rfl,ifF nZ ?_⟩))⟩;cases ho with
   | @num k a b hk=>
    have hc:¬decide (V.str (sg k)=V.str ":")=true:=λz=>by
     have:=of_decide_eq_true z;injection this with this
     revert this
     match k,hk with
     |0,_|1,_|2,_|3,_|4,_|5,_=>decide
    refine⟨_,rfl,(ixT hp rfl (.inl ⟨rfl,_,rfl,ifF hc ?_⟩))⟩;cases hau;cases hx;refine⟨_,rfl,(ixT hp rfl ⟨_,rfl,(ixT hp rfl ⟨_,rfl,k,a,b,congrArg (λz=> [V.str z,V.int a,V.int b]) (cuZ hk),hk,PQ hba hbx,YD hbx,λr H' sm hr=>q _ _ sm (bnZ hk hr)⟩)⟩)⟩
   | @cons a r=>
    cases hx with
    | @lst _ p1 p2 us hp1 hq hr'=>
     refine⟨_,rfl,(ixT hp rfl (.inl ⟨rfl,_,rfl,ifT rfl ?_⟩))⟩;refine⟨_,rfl,(ixT hp rfl ⟨K0,λa1 ha1=> ?_⟩)⟩;have s1:=A1 ha1 (.tup [u]);have hl:=hlen r rfl;have hl2:=hr'.len;have zz:(10001:Nat)<=sizeLine:=by decide
     refine⟨_,rfl,(ixT (s1 _ _ hp1) rfl (.inr (.inl ⟨a1,p2,[u],us,rfl,rfl,SqT.of A2,SqT.of (s1 _ _ hq),cons_ne_nil _ _,(by simp only[length_cons,length_nil];omega),λez=> ?_,λ_ p3 hp3=> ?_⟩)))⟩
     ·subst ez;refine⟨C5,λa2 ha2=>⟨C5,λa3 ha3=> ?_⟩⟩;have s2:=A1 ha2 (.tup [.str "list",.ref a1]);have s3:=A1 ha3 (.tup [.str "value",.ref a2]);have sA:=s1.trans (s2.trans s3);exact q _ _ sA (.val A2 (.lst (s3 _ _ A2) ((s2.trans s3) _ _ A2) (.cons (hau.mono (A4 sA)) (hr'.mono (A4 sA)))))
     ·refine⟨C5,λa2 ha2=>⟨C5,λa3 ha3=> ?_⟩⟩;have s0:=A1 hp3 (.tup ([u]++us));have s2:=A1 ha2 (.tup [.str "list",.ref p3]);have s3:=A1 ha3 (.tup [.str "value",.ref a2]);have sA:=s1.trans (s0.trans (s2.trans s3));exact q _ _ sA (.val A2 (.lst (s3 _ _ A2) ((s2.trans s3) _ _ A2) (.cons (hau.mono (A4 sA)) (hr'.mono (A4 sA)))))
end
noncomputable abbrev W5:Stmt:=_B.top 26
noncomputable abbrev FV:Stmt:=_B.top 27
noncomputable abbrev T5:Stmt:=_B.top 24
noncomputable abbrev GT:List Str:=["program","name","values","rest","most","function"]
theorem sc_into_function:FnScope GT aeZ (B3 W5):=fS
noncomputable abbrev SR:List Str:=["fn","value","rest","most"]
theorem sc_into_fn:FnScope SR bLZ (B3 FV):=fS
noncomputable abbrev FJ:List Str:=["top","value","rest","form","terms"]
theorem sc_onward_to_term:FnScope FJ b2Z (B3 T5):=fS
section
variable{P:Program}{w:World}{K:FZ}{mg:Str->Option Value}{base:Heap}{f:Addr}{fd:FuncData}{NX JI JK AZ OG EF NW avZ UP:Addr}{OD JH JJ BB NZ EE OF axZ UN:FuncData}{pf:Addr}
theorem ok_into_function(F:Fun K "into_function" "into_function" W5 f fd)
  (K5:Cn P w K mg base CX0 1 "function_called" ZP bmZ)
  (T0:Cn P w K mg base CX0 1 "bound_to" ZY LW)
  (R4:Cn P w K mg base CX0 1 "into_body" atZ QG):
  FnOk P w K mg base CX0 2 f fd aeZ bkZ:=by
 refine F.ok sc_into_function (λvs H Q E h=> ?_) (λcdv A outer s H vs Q E hr h=> ?_)
 ·obtain⟨D,d,z,xs,us,r,calls,deep,most,gv,rv,a,rfl,_⟩:=h;rfl
 obtain⟨D,d,z,xs,us,r,calls,deep,most,gv,rv,a,rfl,hg,hgl,hd,ha,hxs,hpl,hxl,hrv,hz,q⟩:=h;have nd:=sc_into_function.nd;refine⟨_,(A6 (sS 5 nd (cC K5 hr (A0 (pv 0) (A0 (pv 1) A5))))
   (A9 (B4 (cC R4 hr (A0 (ixE K w (pv 5) A3) (A0 (cC T0 hr (A0 (ixE K w (pv 5) A3) (A0 (pv 2) A5))) (A0 (pv 3) (A0 (pv 4) A5)))))))), ?_⟩
 refine⟨_,rfl,_,rfl,D,d,z,gv,rfl,hg,hgl,hd,λu H1 s1 ⟨p,pq,tv,e,hp,hpq,ht⟩=> ?_⟩;subst e;refine⟨_,rfl,(ixT hp rfl ⟨_,rfl,(ixT hp rfl ⟨_,rfl,pq,a,d.pars,xs,us,rfl,hpq,.inl (s1 _ _ ha),hxs.imp λ_ _ h=>h.mono (A4 s1),hpl,by omega,λev H2 s2 he=> ?_⟩)⟩)⟩;have s12:=s1.trans s2;exact⟨_,rfl,_,rfl,d.body,_,r,calls,deep,most,tv,ev,rv,rfl,ht.mono (A4 s2),he,hrv.mono (A4 s12),hz,λv H' sm h=>q v H' (s12.trans sm) h⟩
inductive spINW (vs:List V) (H:Hp) (Q:VK):Prop
 |mk:∀(z:Str) (b:Tm) (e x:Vl) (r:List Fr) (calls deep most:Int) (fv xv rv:V),(vs=[fv,xv,rv,.int most])->(V1 H (.fn z b e) fv)->(V1 H x xv)->(L7 e<=1000)->(RsA H r calls deep rv)->(r.length<=10000)->(∀v H',Same H H'->ReA H' (FT most b (.bind e z x) r calls deep) v->Q v H')->spINW vs H Q
noncomputable def cAZ:Sp:=λvs H Q _=>spINW vs H Q
theorem ok_into_fn(F:Fun K "into_fn" "into_fn" FV f fd)
  (R4:Cn P w K mg base CX0 1 "into_body" atZ QG):
  FnOk P w K mg base CX0 2 f fd bLZ cAZ:=by
 refine F.ok sc_into_fn (λvs H Q E h=> ?_) (λcdv A outer s H vs Q E hr h=> ?_)
 ·obtain⟨z,b,e,x,r,calls,deep,most,fv,xv,rv,rfl,_⟩:=h;rfl
 obtain⟨z,b,e,x,r,calls,deep,most,fv,xv,rv,rfl,hfv,hx,hez,hrv,hz,q⟩:=h;cases hfv with
 | @fn _ _ _ p pe tv us hp hb hpe hve=>
 have nd:=sc_into_fn.nd;have he:EA H e (.ref pe):=⟨pe,us,rfl,hpe,hve⟩;refine⟨_,(A9 (B4 (cC R4 hr (A0 (ixE K w (pv 0) A3) (A0 (B5 (E4 (K:=K)) (ixE K w (pv 0) A3) (A8 (A0 (A8 (A0 (ixE K w (pv 0) A3) (A0 (pv 1) A5))) A5))) (A0 (pv 2) (A0 (pv 3) A5))))))), ?_⟩;refine⟨_,rfl,(ixT hp rfl ⟨_,rfl,(ixT hp rfl ⟨_,rfl,(ixT hp rfl ⟨_,rfl,C5,λa1 ha1=>⟨K0,λa2 ha2=> ?_⟩⟩)⟩)⟩)⟩;have s1:=(A1 ha1 (.tup [.str z,xv])).trans (A1 ha2 (.tup [.ref a1]));refine .inr (HB (he.mono (A4 s1)) ((A1 ha2 _) _ _ A2) (hx.mono (A4 s1)) A2 (by omega) λev2 H2 s2 he2=> ?_);have s12:=s1.trans s2;exact⟨_,rfl,_,rfl,b,_,r,calls,deep,most,tv,ev2,rv,rfl,hb.mono (A4 s12),he2,hrv.mono (A4 s12),hz,λv H' sm h=>q v H' (s12.trans sm) h⟩
end
theorem BT{K:FZ}{H:Hp}{fo:Fo}{fv:V}{r:List Fr}{c d:Int}{rv:V}{q:Addr}{Q:VK}(hf:FoA H fo fv)(hq:H q=some (.tup [fv]))(hr:RsA H r c d rv)(go:∀u H',Same H H'->StA H' ⟨fo,r,c,d⟩ u->Q u H'):GN K (.ref q) rv H Q:=by
 obtain⟨p,l,rfl,hp,hl⟩:=hr;refine⟨q,p,[fv],[l,.int c,.int d],rfl,rfl,SqT.of hq,SqT.of hp,cons_ne_nil _ _,(by show 4<=sizeLine;decide),λz=>absurd z (cons_ne_nil _ _),λ_ u hu=> ?_⟩;have s1:=A1 hu (.tup [fv,l,.int c,.int d]);exact go _ _ s1 ⟨u,fv,l,rfl,A2,hf.mono (A4 s1),hl.mono (A4 s1)⟩
noncomputable def OQ:Fr->Prop
 | .let_ _ _ e=>L7 e<=1000
 | .with_ (.fn _ _ e)=>L7 e<=1000
 | .call _ vs ts _=>vs.length<=900/\ts.length<=900
 |_=>True
section
variable{P:Program}{w:World}{K:FZ}{mg:Str->Option Value}{base:Heap}{f:Addr}{fd:FuncData}{UP:Addr}{UN:FuncData}
inductive spTTW(vs:List V)(H:Hp)(Q:VK):Prop
 |mk:∀(fr:Fr) (x:Vl) (fo:Fo) (fs:List Fr) (r:List Fr) (calls deep:Int) (tv xv rv:V),(vs=[tv,xv,rv])->(FA H fr tv)->(V1 H x xv)->(ToT fr x fo fs)->(OQ fr)->(RsA H r calls deep rv)->(r.length<=10000)->(∀v H',Same H H'->StA H' ⟨fo,fs++r,calls,deep⟩ v->Q v H')->spTTW vs H Q
noncomputable def cvZ:Sp:=λvs H Q _=>spTTW vs H Q
theorem ok_onward_to_term(F:Fun K "onward_to_term" "onward_to_term" T5 f fd)
  (BI:Cn P w K mg base CX0 1 "pushed" bgZ YC):
  FnOk P w K mg base CX0 2 f fd b2Z cvZ:=by
 refine F.ok sc_onward_to_term (λvs H Q E h=> ?_) (λcdv A outer s H vs Q E hr h=> ?_)
 ·obtain⟨fr,x,fo,fs,r,calls,deep,tv,xv,rv,rfl,_⟩:=h;rfl
 obtain⟨fr,x,fo,fs,r,calls,deep,tv,xv,rv,rfl,hf,hx,hy,hen,hrv,hz,q⟩:=h;have nd:=sc_onward_to_term.nd;have hu:=hr.units0;refine⟨_,(A6 (sS 3 nd (ixE K w (pv 0) A3))
   (A6 (B7 (B0 (kEq (K:=K) hu) (pv 3) A7 rfl) (A9 (B4 (B5 (E4 (K:=K)) (A8 (A0 (A8 (A0 A7 (A0 (Y0 (N5 (K:=K) (pv 1) (λ_=>rfl)) (ixE K w (pv 0) A3) (ixE K w (pv 0) A3)) (A0 (ixE K w (pv 0) A3) A5)))) A5)) (pv 2)))) B6)
   (A6 (B7 (B0 (kEq (K:=K) hu) (pv 3) A7 rfl) (A9 (B4 (B5 (E4 (K:=K)) (A8 (A0 (A8 (A0 A7 (A0 (ixE K w (pv 0) A3) (A0 (B5 (E4 (K:=K)) (ixE K w (pv 0) A3) (A8 (A0 (A8 (A0 (ixE K w (pv 0) A3) (A0 (pv 1) A5))) A5))) A5)))) A5)) (pv 2)))) B6)
   (A6 (B7 (B0 (kEq (K:=K) hu) (pv 3) A7 rfl) (A9 (B4 (cC BI hr (A0 (A8 (A0 A7 (A0 (ixE K w (pv 0) A3) (A0 (ixE K w (pv 0) A3) A5)))) (A0 (A8 (A0 A7 (A0 (ixE K w (pv 0) A3) (A0 (pv 1) A5)))) (A0 (pv 2) A5)))))) B6)
   (A6 (B7 (B0 (kEq (K:=K) hu) (pv 3) A7 rfl) (A9 (B4 (cC BI hr (A0 (A8 (A0 A7 (A0 (ixE K w (pv 0) A3) (A0 (ixE K w (pv 0) A3) A5)))) (A0 (A8 (A0 A7 (A0 (pv 1) A5))) (A0 (pv 2) A5)))))) B6)
   (A6 (sS 4 nd (ixE K w (pv 0) A3))
   (A9 (B4 (cC BI hr (A0 (A8 (A0 A7 (A0 (ixE K w (pv 4) A3) (A0 (ixE K w (pv 0) A3) A5)))) (A0 (A8 (A0 A7 (A0 (ixE K w (pv 0) A3) (A0 (B5 (E4 (K:=K)) (ixE K w (pv 0) A3) (A8 (A0 (pv 1) A5))) (A0 (C2 (kSl (K:=K)) (pv 4) (C6 A3) C9) (A0 (ixE K w (pv 0) A3) A5)))))) (A0 (pv 2) A5)))))))))))), ?_⟩
 cases hy with
 | @ite a b e c=>
  cases hx;cases hf with
  | @ite _ _ _ p t1 t2 w1 hp ha hb he=>
   refine⟨_,rfl,(ixT hp rfl ?_)⟩;refine⟨_,rfl,.inl ⟨rfl,_,rfl,ifT rfl ?_⟩⟩;cases c
   ·refine⟨_,rfl,false,rfl,ifF nZ ⟨_,rfl,(ixT hp rfl ⟨_,rfl,(ixT hp rfl ⟨C7,λa1 ha1=>⟨K0,λa2 ha2=>⟨_,rfl,.inr (.inl ?_)⟩⟩⟩)⟩)⟩⟩;have s1:=(A1 ha1 (.tup [.str "term",t2,w1])).trans (A1 ha2 (.tup [.ref a1]));exact BT (fo:=.term b e) (.term ((A1 ha2 _) _ _ A2) (hb.mono (A4 s1)) (he.mono (A4 s1))) A2 (hrv.mono (A4 s1)) λu H' sm h=>q u H' (s1.trans sm) h
   ·refine⟨_,rfl,true,rfl,ifT rfl ⟨_,rfl,(ixT hp rfl ⟨_,rfl,(ixT hp rfl ⟨C7,λa1 ha1=>⟨K0,λa2 ha2=>⟨_,rfl,.inr (.inl ?_)⟩⟩⟩)⟩)⟩⟩;have s1:=(A1 ha1 (.tup [.str "term",t1,w1])).trans (A1 ha2 (.tup [.ref a1]));exact BT (fo:=.term a e) (.term ((A1 ha2 _) _ _ A2) (ha.mono (A4 s1)) (he.mono (A4 s1))) A2 (hrv.mono (A4 s1)) λu H' sm h=>q u H' (s1.trans sm) h
 | @let_ z b e _=>
  cases hf with
  | @let_ _ _ _ p t1 w1 hp hb he=>
   refine⟨_,rfl,(ixT hp rfl ?_)⟩;refine⟨_,rfl,.inl ⟨rfl,_,rfl,ifF nZ ⟨_,rfl,.inl ⟨rfl,_,rfl,ifT rfl ?_⟩⟩⟩⟩;refine⟨_,rfl,(ixT hp rfl ⟨_,rfl,(ixT hp rfl ⟨_,rfl,(ixT hp rfl ⟨_,rfl,C5,λa1 ha1=>⟨K0,λa2 ha2=> ?_⟩⟩)⟩)⟩)⟩;have s1:=(A1 ha1 (.tup [.str z,xv])).trans (A1 ha2 (.tup [.ref a1]));refine .inr (HB (he.mono (A4 s1)) ((A1 ha2 _) _ _ A2) (hx.mono (A4 s1)) A2 (by have:L7 e<=1000:=hen;omega) λev2 H2 s2 he2=>⟨C7,λa3 ha3=>⟨K0,λa4 ha4=>⟨_,rfl,.inr (.inl ?_)⟩⟩⟩);have s3:=(A1 ha3 (.tup [.str "term",t1,ev2])).trans (A1 ha4 (.tup [.ref a3]));have s13:=s1.trans (s2.trans s3);exact BT (fo:=.term b (.bind e z x)) (.term ((A1 ha4 _) _ _ A2) (hb.mono (A4 s13)) (he2.mono (A4 s3))) A2 (hrv.mono (A4 s13)) λu H' sm h=>q u H' (s13.trans sm) h
 | @two s t e _=>
  cases hf with
  | @two _ _ _ p t1 w1 hp hb he=>
   refine⟨_,rfl,(ixT hp rfl ?_)⟩;refine⟨_,rfl,.inl ⟨rfl,_,rfl,ifF nZ ⟨_,rfl,.inl ⟨rfl,_,rfl,ifF nZ ⟨_,rfl,.inl ⟨rfl,_,rfl,ifT rfl ?_⟩⟩⟩⟩⟩⟩;refine⟨_,rfl,(ixT hp rfl ⟨_,rfl,(ixT hp rfl ⟨C7,λa1 ha1=> ?_⟩)⟩)⟩;have s1:=A1 ha1 (.tup [.str "term",t1,w1]);refine⟨_,rfl,(ixT (s1 _ _ hp) rfl ⟨_,rfl,C7,λa2 ha2=> ?_⟩)⟩;have s2:=A1 ha2 (.tup [.str "then",.str s,xv]);have s12:=s1.trans s2;exact⟨_,rfl,.term t e,.then_ s x,r,calls,deep,.ref a1,.ref a2,rv,rfl,.term (s2 _ _ A2) (hb.mono (A4 s12)) (he.mono (A4 s12)),.then_ A2 (hx.mono (A4 s12)),hrv.mono (A4 s12),hz,λu H' sm h=>q u H' (s12.trans sm) h⟩
 | @do_ t e _=>
  cases hf with
  | @do_ _ _ p t1 w1 hp hb he=>
   refine⟨_,rfl,(ixT hp rfl ?_)⟩;refine⟨_,rfl,.inl ⟨rfl,_,rfl,ifF nZ ⟨_,rfl,.inl ⟨rfl,_,rfl,ifF nZ ⟨_,rfl,.inl ⟨rfl,_,rfl,ifF nZ ⟨_,rfl,.inl ⟨rfl,_,rfl,ifT rfl ?_⟩⟩⟩⟩⟩⟩⟩⟩;refine⟨_,rfl,(ixT hp rfl ⟨_,rfl,(ixT hp rfl ⟨C7,λa1 ha1=> ?_⟩)⟩)⟩;have s1:=A1 ha1 (.tup [.str "term",t1,w1]);refine⟨_,rfl,C5,λa2 ha2=> ?_⟩;have s2:=A1 ha2 (.tup [.str "with",xv]);have s12:=s1.trans s2;exact⟨_,rfl,.term t e,.with_ x,r,calls,deep,.ref a1,.ref a2,rv,rfl,.term (s2 _ _ A2) (hb.mono (A4 s12)) (he.mono (A4 s12)),.with_ A2 (hx.mono (A4 s12)),hrv.mono (A4 s12),hz,λu H' sm h=>q u H' (s12.trans sm) h⟩
 | @call z vs t ts e _=>
  cases hf with
  | @call _ _ _ _ p p2 p3 us ws w1 hp hq hvs hr3 hts he=>
   cases hts with
   | @cons _ u0 _ ws ht0 hts=>
    have hl:=hvs.len;have hle:vs.length<=900:=hen.1;refine⟨_,rfl,(ixT hp rfl ?_)⟩;refine⟨_,rfl,.inl ⟨rfl,_,rfl,ifF nZ ⟨_,rfl,.inl ⟨rfl,_,rfl,ifF nZ ⟨_,rfl,.inl ⟨rfl,_,rfl,ifF nZ ⟨_,rfl,.inl ⟨rfl,_,rfl,ifF nZ ?_⟩⟩⟩⟩⟩⟩⟩⟩;refine⟨_,rfl,(ixT hp rfl ?_)⟩;refine⟨_,rfl,(ixT hr3 (show atI (u0::ws) ((0:Nat):Int)=some u0 from D5 rfl) ⟨_,rfl,(ixT hp rfl ⟨C7,λa1 ha1=> ?_⟩)⟩)⟩;have s1:=A1 ha1 (.tup [.str "term",u0,w1]);refine⟨_,rfl,(ixT (s1 _ _ hp) rfl ⟨_,rfl,(ixT (s1 _ _ hp) rfl ⟨_,rfl,K0,λa2 ha2=> ?_⟩)⟩)⟩;have s2:=s1.trans (A1 ha2 (.tup [xv]));refine .inr (NH (s2 _ _ hq) A2 (by omega) λp4 H4 s4 hp4=> ?_);have s24:=s2.trans s4;refine⟨_,rfl,_,rfl,.inr ⟨p3,_,rfl,SqT.of (s24 _ _ hr3),E3 (by decide) (succ_pos _) _,λp5 hp5=> ?_⟩⟩;rw[show P3 (u0::ws) (some 1) none=ws by exact Y6 u0 ws];have s5:=A1 hp5 (.tup ws);have s25:=s24.trans s5;refine⟨_,rfl,(ixT (s25 _ _ hp) rfl ⟨aBZ,λp6 hp6=> ?_⟩)⟩;have s6:=A1 hp6 (.tup [.str "call",.str z,.ref p4,.ref p5,w1]);have sA:=s25.trans s6;refine⟨_,rfl,.term t e,.call z (vs++ [x]) ts e,r,calls,deep,.ref a1,.ref p6,rv,rfl,.term (((A1 ha2 _).trans (s4.trans (s5.trans s6))) _ _ A2) (ht0.mono (A4 sA)) (he.mono (A4 sA)),.call A2 ((s5.trans s6) _ _ hp4) ((hvs.imp λ_ _ h=>h.mono (A4 sA)).app (.cons (hx.mono (A4 sA)) .nil)) (s6 _ _ A2) (hts.imp λ_ _ h=>h.mono (A4 sA)) (he.mono (A4 sA)),hrv.mono (A4 sA),hz,λu H' sm h=>q u H' (sA.trans sm) h⟩
end
noncomputable abbrev Z8:Stmt:=_B.top 29
noncomputable abbrev DQ:Stmt:=_B.top 30
noncomputable abbrev AO:Stmt:=_B.top 31
noncomputable abbrev FO:Stmt:=_B.top 32
noncomputable abbrev P8:Stmt:=_B.top 21
noncomputable abbrev IF:Stmt:=_B.top 14
noncomputable abbrev JE:List Str:=["value"]
theorem sc_plain_value:FnScope JE JB (B3 Z8):=fS
noncomputable abbrev PM:List Str:=["value"]
theorem sc_items_in:FnScope PM JB (B3 DQ):=fS
noncomputable abbrev LB:List Str:=["value","items"]
theorem sc_with_items:FnScope LB caZ (B3 AO):=fS
noncomputable abbrev SU:List Str:=["value"]
theorem sc_is_list:FnScope SU JB (B3 FO):=fS
noncomputable abbrev CP:List Str:=["program","state","most","value","pile","top","rest","told"]
theorem sc_onward_from_value:FnScope CP LA (B3 P8):=fS
noncomputable abbrev WO:List Str:=["program","state","most"]
theorem sc_onward:FnScope WO LA (B3 IF):=fS
noncomputable def sz2:Bool->Vl->Nat
 |b,.lst r=>bif b then 0 else 1+sz2 true r
 |b,.cons a r=>bif b then sz2 false a+sz2 true r else 1
 |b,_=>bif b then 0 else 1
noncomputable def GY:Vl->List Vl
 | .cons a r=>a::GY r
 |_=> []
noncomputable def WK:Vl->List Vl
 | .lst r=>GY r
 |_=> []
theorem UU:∀r:Vl,sz2 true r=((GY r).map (sz2 false)).sum
 | .cons a r=>by rw[GY,map_cons,sum_cons,<-UU r];rfl
 | .int _| .bl _| .lst _| .fn _ _ _| .nil| .bind _ _ _=>rfl
noncomputable def plv:Bool->Vl->Bool
 |b,.lst r=> !b&&plv true r
 |b,.cons a r=>b&&plv false a&&plv true r
 |b,.nil=>b
 |b,.int _=> !b
 |b,.bl _=> !b
 |_,_=>false
inductive PAs (S:AS) (H:Hp):Vl->V⊕List V->Prop
 |int {n}:PAs S H (.int n) (.inl (.int n))
 |bl {b}:PAs S H (.bl b) (.inl (.bl b))
 |lst {r p us}:H p=some (.lst us)->¬S p->PAs S H r (.inr us)->PAs S H (.lst r) (.inl (.ref p))
 |nil:PAs S H .nil (.inr [])
 |cons {a r v vs}:PAs S H a (.inl v)->PAs S H r (.inr vs)->PAs S H (.cons a r) (.inr (v::vs))
theorem PAs.told{S:AS}{H:Hp}{x:Vl}{v:V⊕List V}(h:PAs S H x v):PA' H x v:=by
 induction h with
 |int=>exact .int
 |bl=>exact .bl
 |lst h _ _ i=>exact .lst h i
 |nil=>exact .nil
 |cons _ _ i1 i2=>exact .cons i1 i2
theorem PAs.kp{S:AS}{H H':Hp}(m:Kp S H H'){x:Vl}{v:V⊕List V}(h:PAs S H x v):PAs S H' x v:=by
 induction h with
 |int=>exact .int
 |bl=>exact .bl
 |lst h g _ i=>exact .lst (m.2 _ _ h g) g i
 |nil=>exact .nil
 |cons _ _ i1 i2=>exact .cons i1 i2
theorem PAs.wd{S S':AS}{H:Hp}(m:Wd H S S'){x:Vl}{v:V⊕List V}(h:PAs S H x v):PAs S' H x v:=by
 induction h with
 |int=>exact .int
 |bl=>exact .bl
 | @lst r p us h g _ i=>exact .lst h (λz=>(m p z).elim g λe=>by rw[h]at e;cases e) i
 |nil=>exact .nil
 |cons _ _ i1 i2=>exact .cons i1 i2
noncomputable def LT:Tr where
 T:=Vl
 kids:=WK
 size:=sz2 false
 hsz:=λt=>by
  cases t with
  |lst r=>show 1+sz2 true r=_;rw[UU];rfl
  |_=>rfl
 val:=λ_ H t v=>V1 H t v/\plv false t=true
 res:=λS H t v=>PAs S H t (.inl v)
 vm:=λm h=>⟨h.1.mono m.1,h.2⟩
 vw:=λ_ h=>h
 rm:=λm h=>h.kp m
 rw':=λm h=>h.wd m
theorem OU{H:Hp}:∀ {r:Vl} {us:List V},VA H r (.inr (false,us))->plv true r=true->All2 (λt v=>V1 H t v/\plv false t=true) (GY r) us
 | .nil,_,h,_=>by cases h;exact .nil
 | .cons a r,_,h,p=>by
  cases h with
  |cons h1 h2=>
   have p':plv false a=true/\plv true r=true:=by simpa [plv]using p
   exact .cons ⟨h1,p'.1⟩ (OU h2 p'.2)
 | .int _,_,h,_| .bl _,_,h,_| .lst _,_,h,_| .fn _ _ _,_,h,_| .bind _ _ _,_,h,_=>by cases h
theorem RM{S:AS}{H:Hp}:∀ {r:Vl} {us:List V},plv true r=true->All2 (λt v=>PAs S H t (.inl v)) (GY r) us->PAs S H r (.inr us)
 | .nil,_,_,h=>by cases h;exact .nil
 | .cons a r,_,p,h=>by
  cases h with
  |cons h1 h2=>
   have p':plv false a=true/\plv true r=true:=by simpa [plv]using p
   exact .cons h1 (RM p'.2 h2)
 | .int _,_,p,_| .bl _,_,p,_| .lst _,_,p,_| .fn _ _ _,_,p,_| .bind _ _ _,_,p,_=>by simp[plv]at p
noncomputable def isL:Vl->Bool
 | .lst _=>true
 |_=>false
section
variable{P:Program}{w:World}{K:FZ}{mg:Str->Option Value}{base:Heap}{f:Addr}{fd:FuncData}{cgZ HC EG a1Z:Addr}{cdZ NU KQ aSZ:FuncData}
theorem PV:kitOne K (.type "int") (.type "tuple")=some false:=by rfl
theorem OV:kitOne K (.type "bool") (.type "tuple")=some false:=by rfl
theorem FR:kitOne K (.type "tuple") (.type "tuple")=some true:=by rfl
inductive spIsLW (vs:List V) (H:Hp) (Q:VK):Prop
 |mk:∀(x:Vl) (v:V),(vs=[v])->(V1 H x v)->(Q (.bl (isL x)) H)->spIsLW vs H Q
noncomputable def YN:Sp:=λvs H Q _=>spIsLW vs H Q
theorem ok_is_list(F:Fun K "is_list" "is_list" FO f fd)(B:_B.NoG mg):FnOk P w K mg base CX0 1 f fd JB YN:=by
 refine F.ok sc_is_list (λvs H Q E h=> ?_) (λcdv A outer s H vs Q E hr h=> ?_)
 ·obtain⟨x,v,rfl,_⟩:=h;rfl
 obtain⟨x,v,rfl,hx,q⟩:=h;have nd:=sc_is_list.nd;have hu:=hr.units0;refine⟨_,(A9 (B4 (WU (J7 (CC (K:=K)) rfl B.isinstance_ E1 (A0 (pv 0) (A0 (O1 (v:=.ty "tuple") rfl B.tuple_ M6 rfl) A5))) (YM (N4 (kEq (K:=K) hu) (ixE K w (pv 0) A3) A7 rfl))))), ?_⟩;cases hx with
 | @int n=>exact⟨_,rfl,_,_,_,_,rfl,.int n,PV,false,rfl,ifF nZ q⟩
 | @bl n=>exact⟨_,rfl,_,_,_,_,rfl,.bl n,OV,false,rfl,ifF nZ q⟩
 | @lst r p p2 us hp hq hr'=>exact⟨_,rfl,_,_,_,true,rfl,.tup hp,FR,true,rfl,ifT rfl ⟨_,rfl,(ixT hp rfl (.inl ⟨rfl,q⟩))⟩⟩
 | @fn z b e p p2 t us hp hb hq he=>exact⟨_,rfl,_,_,_,true,rfl,.tup hp,FR,true,rfl,ifT rfl ⟨_,rfl,(ixT hp rfl (.inl ⟨rfl,q⟩))⟩⟩
theorem ok_items_in(F:Fun K "items_in" "items_in" DQ f fd)(B:_B.NoG mg)
  (X0:Cn P w K mg base CX0 1 "is_list" JB YN):
  FnOk P w K mg base CX0 2 f fd JB (spP LT):=by
 refine F.ok sc_items_in (λvs H Q E h=> ?_) (λcdv A outer s H vs Q E hr h=> ?_)
 ·obtain⟨S,t,v,rfl,_⟩:=h;rfl
 obtain⟨S,t,v,rfl,⟨hv,hpl⟩,_,q⟩:=h;have nd:=sc_items_in.nd;refine⟨_,(A9 (B4 (Y0 (N5 (K:=K) (cC X0 hr (A0 (pv 0) A5)) (λ_=>rfl)) (F6 (LS (K:=K)) rfl B.list_ U4 (A0 (ixE K w (pv 0) A3) A5)) (K1 A5)))), ?_⟩;have no:isL t=false->WK t=[]:=λe=>by cases t<;>first|rfl|cases e
 by_cases c:isL t=true
 ·cases hv with
  | @lst r p p2 us hp hq hr'=>
   refine⟨_,rfl,.lst r,.ref p,rfl,.lst hp hq hr',true,rfl,ifT rfl ?_⟩;refine⟨_,rfl,(ixT hp rfl ⟨_,_,rfl,.inr (SqT.of hq),λl hl=> ?_⟩)⟩;have s1:=A1 hl (.lst us);exact q l _ us s1 hl A2 (OU (hr'.mono (A4 s1)) (by simpa [plv]using hpl))
  |_=>cases c
 ·have c':isL t=false:=by simpa using c
  refine⟨_,rfl,t,v,rfl,hv,false,(by rw[c'];rfl),ifF nZ ⟨(by show 0<=sizeLine;decide),λl hl=>q l _ [] (A1 hl _) hl A2 ?_⟩⟩;show All2 _ (WK t) _;rw[no c'];exact .nil
theorem ok_with_items(F:Fun K "with_items" "with_items" AO f fd)
  (X0:Cn P w K mg base CX0 1 "is_list" JB YN):
  FnOk P w K mg base CX0 2 f fd caZ (spM LT):=by
 refine F.ok sc_with_items (λvs H Q E h=> ?_) (λcdv A outer s H vs Q E hr h=> ?_)
 ·obtain⟨S,t,v,l,us,rfl,_⟩:=h;rfl
 obtain⟨S,t,v,l,us,rfl,⟨hv,hpl⟩,_,hl,hS,_,hus,q⟩:=h;have nd:=sc_with_items.nd;refine⟨_,(A9 (B4 (Y0 (N5 (K:=K) (cC X0 hr (A0 (pv 0) A5)) (λ_=>rfl)) (pv 1) (pv 0)))), ?_⟩;cases hv with
 | @int n=>exact⟨_,rfl,.int n,_,rfl,.int,false,rfl,ifF nZ ⟨_,rfl,q _ _ (Same.refl _) .int⟩⟩
 | @bl n=>exact⟨_,rfl,.bl n,_,rfl,.bl,false,rfl,ifF nZ ⟨_,rfl,q _ _ (Same.refl _) .bl⟩⟩
 | @lst r p p2 us' hp hq hr'=>exact⟨_,rfl,.lst r,_,rfl,.lst hp hq hr',true,rfl,ifT rfl ⟨_,rfl,q _ _ (Same.refl _) (.lst hl hS (RM (by simpa [plv]using hpl) hus))⟩⟩
 |fn=>simp[plv]at hpl
inductive spPlainW (vs:List V) (H:Hp) (Q:VK):Prop
 |mk:∀(x:Vl) (v:V),(vs=[v])->(V1 H x v)->(plv false x=true)->(sz2 false x<=400000)->(∀u H',Same H H'->PA' H' x (.inl u)->Q u H')->spPlainW vs H Q
noncomputable def SC:Sp:=λvs H Q _=>spPlainW vs H Q
theorem ok_plain_value(F:Fun K "plain_value" "plain_value" Z8 f fd)
  (DC:Cn P w K mg base CX0 3 "built_up" beZ (_B.spBuilt P w K mg base))
  (X3:Cn P w K mg base CX0 2 "items_in" JB (spP LT))
  (S5:Cn P w K mg base CX0 2 "with_items" caZ (spM LT)):
  FnOk P w K mg base CX0 4 f fd JB SC:=by
 obtain⟨HC,NU,X3,OB,OE,NY⟩:=X3;obtain⟨EG,KQ,S5,KO,KS,KW⟩:=S5;refine F.ok sc_plain_value (λvs H Q E h=> ?_) (λcdv A outer s H vs Q E hr h=> ?_)
 ·obtain⟨x,v,rfl,_⟩:=h;rfl
 obtain⟨x,v,rfl,hx,hpl,hsz,q⟩:=h;have nd:=sc_plain_value.nd;refine⟨_,(A9 (B4 (cC DC hr (A0 (pv 0) (A0 (CJ (v:=.ref _) rfl NY rfl) (A0 (CJ (v:=.ref _) rfl KW rfl) A5)))))), ?_⟩;exact⟨_,rfl,LT,λ_=>False,x,v,HC,EG,_,_,_,_,rfl,X3,OE,OB,S5,KS,KO,(λ_ z=>z.elim),⟨hx,hpl⟩,hsz,λr H' sm hr=>q _ _ sm hr.told⟩
theorem HE{us:List V}{u:V}:P3 (us++ [u]) none (some (-1))=us:=by
 unfold P3 HT.sIx;simp;rw[show(-1+((us.length:Int)+1)).toNat=us.length by omega];simp
theorem NI{us:List V}{u:V}:¬(HT.sIx (us++ [u]).length 0 none=0/\HT.sIx (us++ [u]).length (us++ [u]).length (some (-1))=(us++ [u]).length):=by
 unfold HT.sIx;simp;omega
end
noncomputable def frW:Fr->Str
 | .two _ _ _=> "two"| .then_ _ _=> "then"| .one _=> "one"| .ite _ _ _=> "if"| .let_ _ _ _=> "let"| .do_ _ _=> "do"| .with_ _=> "with"| .call _ _ _ _=> "call"| .back=> "back"
theorem FA.word{H:Hp}{x:Fr}{v:V}(h:FA H x v):∃a rest,v=.ref a/\H a=some (.tup (.str (frW x)::rest)):=by
 cases h<;>exact⟨_,_,rfl,by assumption⟩
noncomputable def bdF:Fr->Prop
 | .then_ _ a=>BdV a
 |_=>True
theorem PA'.same{H H':Hp}(m:Same H H'){x:Vl}{v:V⊕List V}(h:PA' H x v):PA' H' x v:=by
 induction h with
 |int=>exact .int
 |bl=>exact .bl
 |lst h _ i=>exact .lst (m _ _ h) i
 |nil=>exact .nil
 |cons _ _ i1 i2=>exact .cons i1 i2
theorem cRZ{fr:Fr}{v:Vl}{fo:Fo}{fs:List Fr}(h:ToT fr v fo fs):¬decide (V.str (frW fr)=V.str "back")=true/\¬inV (.str (frW fr)) [.str "then",.str "one"]=true/\¬decide (V.str (frW fr)=V.str "with")=true:=by
 cases h<;>exact⟨nZ,nZ,nZ⟩
theorem JR{α β:Type}{R:α->β->Prop}{a:α}{r:List α}{us:List β}(h:All2 R (a::r).reverse us):∃u0 u,us=u0++ [u]/\All2 R r.reverse u0/\R a u:=by
 rw[reverse_cons]at h;obtain⟨b1,b2,rfl,h1,h2⟩:=h.split;cases h2 with
 |cons x y=>
  cases y;exact⟨b1,_,rfl,h1,x⟩
section
variable{P:Program}{w:World}{K:FZ}{mg:Str->Option Value}{base:Heap}{f:Addr}{fd:FuncData}{ZD UR ceZ BA SL CZ CL:Addr}{ZG UQ cfZ BC SM DD CM:FuncData}
noncomputable abbrev wto:List V:=[.str "then",.str "one"]
inductive spOVW (vs:List V) (H:Hp) (Q:VK):Prop
 |mk:∀(v:Vl) (pl:List Fr) (c d:Int) (r:Res) (D:List Dn) (most:Int) (gv sv:V),(vs=[gv,sv,.int most])->(StA H ⟨.val v,pl,c,d⟩ sv)->(PgA H D gv)->(D.length<=1000)->(pl.length<=10000)->((∀x∈pl,OQ x/\bdF x))->(BdV v)->((∀r,v=.lst r->L7 r<=10000))->((pl=[]->plv false v=true/\sz2 false v<=400000))->(Stp D most ⟨.val v,pl,c,d⟩ r)->(∀u H',Same H H'->ReA H' r u->Q u H')->spOVW vs H Q
noncomputable def cTZ:Sp:=λvs H Q _=>spOVW vs H Q
theorem ok_onward_from_value(F:Fun K "onward_from_value" "onward_from_value" P8 f fd)(B:_B.NoG mg)
  (Z1:Cn P w K mg base CX0 4 "plain_value" JB SC)
  (X4:Cn P w K mg base CX0 3 "told_at_once" a8Z LH)
  (FB:Cn P w K mg base CX0 2 "into_fn" bLZ cAZ)
  (M8:Cn P w K mg base CX0 2 "into_function" aeZ bkZ)
  (T2:Cn P w K mg base CX0 2 "onward_to_term" b2Z cvZ):
  FnOk P w K mg base CX0 5 f fd LA cTZ:=by
 refine F.ok sc_onward_from_value (λvs H Q E h=> ?_) (λcdv A outer s H vs Q E hr h=> ?_)
 ·obtain⟨v,pl,c,d,r,D,most,gv,sv,rfl,_⟩:=h;rfl
 obtain⟨v,pile,calls,deep,r,D,most,gv,sv,rfl,⟨p,fv,lv,rfl,hp,hf,hl⟩,hg,hgl,hz,hen,hbv,hlv,hpl,hst,q⟩:=h;have hp:H p=some (.tup [fv,lv,.int calls,.int deep]):=hp;have hf0:=hf;obtain⟨pt,xv,rfl,hpt,hx⟩:∃p u,fv=.ref p/\H p=some (.tup [.str "value",u])/\V1 H v u:=by
  cases hf with
  |val h1 h2=>exact⟨_,_,rfl,h1,h2⟩
 obtain⟨lp,us,rfl,hlp,hus⟩:=hl;have nd:=sc_onward_from_value.nd;have hu:=hr.units0;have z4:(4:Nat)<=sizeLine:=by decide
 refine⟨_,(A6 (sS 3 nd (ixE K w (ixE K w (pv 1) A3) A3))
   (A6 (sS 4 nd (ixE K w (pv 1) A3))
   (A6 (B7 (B0 (kEq (K:=K) hu) (kL K B.len_ (pv 4)) A3 rfl) (A9 (B4 (A8 (A0 A7 (A0 (cC Z1 hr (A0 (pv 3) A5)) A5))))) B6)
   (A6 (sS 5 nd (ixE K w (pv 4) (EY AJ A3)))
   (A6 (sS 6 nd (B5 (E4 (K:=K)) (A8 (A0 (C2 (kSl (K:=K)) (pv 4) C9 (C6 (EY AJ A3))) A5)) (C2 (kSl (K:=K)) (pv 1) (C6 A3) C9)))
   (A6 (B7 (B0 (kEq (K:=K) hu) (ixE K w (pv 5) A3) A7 rfl) (A9 (B4 (A8 (A0 (ixE K w (pv 1) A3) (A0 (ixE K w (pv 6) A3) (A0 (ixE K w (pv 6) A3) (A0 (B5 T4 (ixE K w (pv 6) A3) A3) A5))))))) B6)
   (A6 (B7 (B0 (kIn (K:=K) (w:=w)) (ixE K w (pv 5) A3) (A8 (A0 A7 (A0 A7 A5))) rfl) (A6 (sS 7 nd (cC X4 hr (A0 (pv 5) (A0 (pv 3) A5))))
   (A9 (B4 (Y0 (B0 (kEq (K:=K) hu) (ixE K w (pv 7) A3) A7 rfl) (pv 7) (B5 (E4 (K:=K)) (A8 (A0 (pv 7) A5)) (pv 6)))))) B6)
   (A6 (B7 (B0 (kEq (K:=K) hu) (ixE K w (pv 5) A3) A7 rfl) (A9 (B4 (cC FB hr (A0 (ixE K w (pv 5) A3) (A0 (pv 3) (A0 (pv 6) (A0 (pv 2) A5))))))) B6)
   (A6 (D7 (B7 (PW.pt (N1 (B0 (kEq (K:=K) hu) (ixE K w (pv 5) A3) A7 rfl) (M7 (B0 (kEq (K:=K) hu) (kL K B.len_ (ixE K w (pv 5) A3)) A3 rfl)))) (A9 (B4 (cC M8 hr (A0 (pv 0) (A0 (ixE K w (pv 5) A3) (A0 (B5 (E4 (K:=K)) (ixE K w (pv 5) A3) (A8 (A0 (pv 3) A5))) (A0 (pv 6) (A0 (pv 2) A5)))))))) B6))
   (A9 (B4 (cC T2 hr (A0 (pv 5) (A0 (pv 3) (A0 (pv 6) A5))))))))))))))), ?_⟩
 refine⟨_,rfl,(ixT hp rfl (ixT hpt rfl ?_))⟩;refine⟨_,rfl,(ixT hp rfl ?_)⟩;cases pile with
 |nil=>
  cases hus;cases hst;refine⟨_,rfl,_,_,rfl,.inr ⟨_,SqT.of hlp,rfl⟩,.inl ⟨rfl,_,rfl,ifT (by decide) ?_⟩⟩;exact⟨_,rfl,v,xv,rfl,hx,(hpl rfl).1,(hpl rfl).2,λu H' sm hu=>⟨C5,λa ha=>q _ _ (sm.trans (A1 ha _)) ⟨a,u,rfl,A2,hu.same (A1 ha _)⟩⟩⟩
 |cons fr r0=>
  obtain⟨u0,u,rfl,hu0,hfr⟩:=JR hus;have hzl:r0.length<=10000:=by simp only[length_cons]at hz;omega
  refine⟨_,rfl,_,_,rfl,.inr ⟨_,SqT.of hlp,rfl⟩,.inl ⟨rfl,_,rfl,ifF ?_ ?_⟩⟩
  ·simp;omega
  refine⟨_,rfl,1,rfl,(ixT hlp (BY _ _) ?_)⟩;refine⟨_,rfl,1,rfl,_,rfl,.inr ⟨lp,_,rfl,SqT.of hlp,NI,λa1 ha1=>⟨K0,λa2 ha2=> ?_⟩⟩⟩;rw[HE]at ha2⊢;have s1:=A1 ha1 (.tup u0);have s2:=A1 ha2 (.tup [.ref a1]);have s12:=s1.trans s2;refine⟨_,rfl,_,rfl,.inr ⟨p,_,rfl,SqT.of (s12 _ _ hp),E3 (by decide) (succ_pos _) _,λa3 ha3=> ?_⟩⟩;have s3:=A1 ha3 (.tup [.int calls,.int deep]);refine .inr (.inl ⟨a2,a3,[.ref a1],[.int calls,.int deep],rfl,rfl,SqT.of (s3 _ _ A2),SqT.of A2,cons_ne_nil _ _,(by show 3<=sizeLine;decide),λz=>absurd z (cons_ne_nil _ _),λ_ a4 ha4=> ?_⟩);have s4:=A1 ha4 (.tup [.ref a1,.int calls,.int deep]);have sA:Same H (upd (upd (upd (upd H a1 (.tup u0)) a2 (.tup [.ref a1])) a3 (.tup [.int calls,.int deep])) a4 (.tup [.ref a1,.int calls,.int deep])):=s12.trans (s3.trans s4);have hp4:=sA _ _ hp;have ha1':(upd (upd (upd (upd H a1 (.tup u0)) a2 (.tup [.ref a1])) a3 (.tup [.int calls,.int deep])) a4 (.tup [.ref a1,.int calls,.int deep])) a1=some (.tup u0):=(s2.trans (s3.trans s4)) _ _ (show(upd H a1 (.tup u0)) a1=some (.tup u0)from A2);have ha4':(upd (upd (upd (upd H a1 (.tup u0)) a2 (.tup [.ref a1])) a3 (.tup [.int calls,.int deep])) a4 (.tup [.ref a1,.int calls,.int deep])) a4=some (.tup [.ref a1,.int calls,.int deep]):=A2;have hRs:RsA (upd (upd (upd (upd H a1 (.tup u0)) a2 (.tup [.ref a1])) a3 (.tup [.int calls,.int deep])) a4 (.tup [.ref a1,.int calls,.int deep])) r0 calls deep (.ref a4):=⟨a4,.ref a1,rfl,ha4',a1,u0,rfl,ha1',hu0.imp λ_ _ h=>h.mono (A4 sA)⟩;have hfr4:=hfr.mono (A4 sA);have hx4:=hx.mono (A4 sA);have hf4:=hf0.mono (A4 sA);have hg4:=hg.mono (A4 sA);have q4:∀u H',Same (upd (upd (upd (upd H a1 (.tup u0)) a2 (.tup [.ref a1])) a3 (.tup [.int calls,.int deep])) a4 (.tup [.ref a1,.int calls,.int deep])) H'->ReA H' r u->Q u H':=λu H' sm h=>q u H' (sA.trans sm) h;show S9 _ _ _ [some gv,some (.ref p),some (.int most),some xv,some (.ref lp),some u,some (.ref a4),none] (upd (upd (upd (upd H a1 (.tup u0)) a2 (.tup [.ref a1])) a3 (.tup [.int calls,.int deep])) a4 (.tup [.ref a1,.int calls,.int deep]));generalize upd (upd (upd (upd H a1 (.tup u0)) a2 (.tup [.ref a1])) a3 (.tup [.int calls,.int deep])) a4 (.tup [.ref a1,.int calls,.int deep])=H4 at hp4 ha1' ha4' hRs hfr4 hx4 hf4 hg4 q4⊢;have hen1:OQ fr:=(hen fr (mem_cons_self ..)).1;have hbd1:bdF fr:=(hen fr (mem_cons_self ..)).2;obtain⟨a,rest,rfl,ha⟩:=hfr4.word;have hat:atI (V.str (frW fr)::rest) ((0:Nat):Int)=some (.str (frW fr)):=D5 rfl;refine⟨_,rfl,(ixT ha hat (.inl ⟨rfl,_,rfl, ?_⟩))⟩;cases hst with
  |back=>
   refine ifT rfl ?_;refine⟨_,rfl,(ixT hp4 rfl ⟨_,rfl,(ixT ha4' rfl ⟨_,rfl,(ixT ha4' rfl ⟨_,rfl,(ixT ha4' rfl ⟨_,_,rfl,rfl,z4,λa5 ha5=> ?_⟩)⟩)⟩)⟩)⟩;have s5:=A1 ha5 (.tup [.ref pt,.ref a1,.int calls,.int (deep - 1)]);obtain⟨p9,l9,e9,hp9,hl9⟩:=hRs;cases e9;rw[ha4']at hp9;cases hp9;exact q4 _ _ s5 ⟨a5,.ref pt,.ref a1,rfl,A2,hf4.mono (A4 s5),hl9.mono (A4 s5)⟩
  | @one w _ o _ _ _ ho=>
   refine ifF nZ ?_;refine⟨_,rfl,(ixT ha hat ⟨C5,λb hb=> .inr (.inl ⟨b,wto,rfl,.inr (SqT.of A2),rfl,rfl,_,rfl,ifT rfl ?_⟩)⟩)⟩;have s5:=A1 hb (.tup wto);refine⟨_,rfl,_,rfl,_,v,o,.ref a,xv,rfl,hfr4.mono (A4 s5),hx4.mono (A4 s5),hbv,.inl ⟨_,rfl,ho⟩,hlv,λu6 H6 s6 hO=> ?_⟩;have s56:=s5.trans s6;cases hO with
   | @val x p6 u hp6 hv6=>
    refine⟨_,rfl,(ixT hp6 rfl (.inl ⟨rfl,_,rfl,ifF nZ ⟨_,rfl,K0,λa7 ha7=>⟨_,rfl,.inr (.inl ?_)⟩⟩⟩))⟩;have s7:=A1 ha7 (.tup [.ref p6]);have s57:=s56.trans s7;exact BT (fo:=.val x) (.val (s7 _ _ hp6) (hv6.mono (A4 s7))) A2 (hRs.mono (A4 s57)) λu H' sm h=>q4 u H' (s57.trans sm) h
   | @ref w p6 hp6=>
    exact⟨_,rfl,(ixT hp6 rfl (.inl ⟨rfl,_,rfl,ifT rfl ⟨_,rfl,q4 _ _ s56 ⟨p6,rfl,hp6⟩⟩⟩))⟩
  | @then_ s x _ o _ _ _ ho=>
   refine ifF nZ ?_;refine⟨_,rfl,(ixT ha hat ⟨C5,λb hb=> .inr (.inl ⟨b,wto,rfl,.inr (SqT.of A2),rfl,rfl,_,rfl,ifT rfl ?_⟩)⟩)⟩;have s5:=A1 hb (.tup wto);refine⟨_,rfl,_,rfl,_,v,o,.ref a,xv,rfl,hfr4.mono (A4 s5),hx4.mono (A4 s5),hbv,.inr ⟨_,_,rfl,hbd1,ho⟩,hlv,λu6 H6 s6 hO=> ?_⟩;have s56:=s5.trans s6;cases hO with
   | @val x p6 u hp6 hv6=>
    refine⟨_,rfl,(ixT hp6 rfl (.inl ⟨rfl,_,rfl,ifF nZ ⟨_,rfl,K0,λa7 ha7=>⟨_,rfl,.inr (.inl ?_)⟩⟩⟩))⟩;have s7:=A1 ha7 (.tup [.ref p6]);have s57:=s56.trans s7;exact BT (fo:=.val x) (.val (s7 _ _ hp6) (hv6.mono (A4 s7))) A2 (hRs.mono (A4 s57)) λu H' sm h=>q4 u H' (s57.trans sm) h
   | @ref w p6 hp6=>
    exact⟨_,rfl,(ixT hp6 rfl (.inl ⟨rfl,_,rfl,ifT rfl ⟨_,rfl,q4 _ _ s56 ⟨p6,rfl,hp6⟩⟩⟩))⟩
  | @with_ z b e _ _ _ _=>
   refine ifF nZ ?_;refine⟨_,rfl,(ixT ha hat ⟨C5,λb5 hb5=> .inr (.inl ⟨b5,wto,rfl,.inr (SqT.of A2),rfl,rfl,_,rfl,ifF nZ ?_⟩)⟩)⟩;have s5:=A1 hb5 (.tup wto);refine⟨_,rfl,(ixT (s5 _ _ ha) hat (.inl ⟨rfl,_,rfl,ifT rfl ?_⟩))⟩;cases hfr4 with
   | @with_ _ _ u9 hp9 hv9=>
    exact⟨_,rfl,(ixT (s5 _ _ hp9) rfl ⟨_,rfl,_,rfl,_,rfl,z,b,e,v,r0,calls,deep,most,u9,xv,.ref a4,rfl,hv9.mono (A4 s5),hx4.mono (A4 s5),hen1,hRs.mono (A4 s5),hzl,λu H' sm h=>q4 u H' (s5.trans sm) h⟩)⟩
  | @call z vs e _ dn _ _ _ hd hdl=>
   refine ifF nZ ?_;refine⟨_,rfl,(ixT ha hat ⟨C5,λb5 hb5=> .inr (.inl ⟨b5,wto,rfl,.inr (SqT.of A2),rfl,rfl,_,rfl,ifF nZ ?_⟩)⟩)⟩;have s5:=A1 hb5 (.tup wto);refine⟨_,rfl,(ixT (s5 _ _ ha) hat (.inl ⟨rfl,_,rfl,ifF nZ ?_⟩))⟩;cases hfr4 with
   | @call _ _ _ _ _ q9 r9 us9 ws9 w9 hp9 hq9 hvs hr9 hts he9=>
    cases hts;have hle:vs.length<=900:=hen1.1;have hl9:=hvs.len;refine⟨λ_ _=>False, ?_,λ_ _ z=>z.elim⟩;refine⟨_,rfl,(ixT (s5 _ _ hp9) rfl (.inl ⟨rfl,_,rfl,ifT rfl ⟨_,rfl,(ixT (s5 _ _ hp9) rfl ⟨_,_,rfl,.inr ⟨_,SqT.of (s5 _ _ hr9),rfl⟩,.inl ⟨rfl,_,rfl,ifT (by decide) ?_⟩⟩)⟩⟩))⟩;refine⟨_,rfl,_,rfl,(ixT (s5 _ _ hp9) rfl ⟨_,rfl,(ixT (s5 _ _ hp9) rfl ⟨_,rfl,K0,λa6 ha6=> ?_⟩)⟩)⟩;have s6:=s5.trans (A1 ha6 (.tup [xv]));refine .inr (NH (s6 _ _ hq9) A2 (by omega) λp7 H7 s7 hp7=> ?_);have s67:=s6.trans s7;exact⟨_,rfl,_,rfl,D,dn,z,vs++ [v],us9++ [xv],r0,calls,deep,most,gv,.ref a4,p7,rfl,hg4.mono (A4 s67),hgl,hd,hp7,(hvs.imp λ_ _ h=>h.mono (A4 s67)).app (.cons (hx4.mono (A4 s67)) .nil),by rw[hdl];simp,by rw[length_append];simp only[length_cons,length_nil];omega,hRs.mono (A4 s67),hzl,λu H' sm h=>q4 u H' (s67.trans sm) h⟩
  | @to _ _ fo fs _ _ _ ht=>
   obtain⟨w1,w2,w3⟩:=cRZ ht;refine ifF w1 ?_;refine⟨_,rfl,(ixT ha hat ⟨C5,λb5 hb5=> .inr (.inl ⟨b5,wto,rfl,.inr (SqT.of A2),rfl,rfl,_,rfl,ifF w2 ?_⟩)⟩)⟩;have s5:=A1 hb5 (.tup wto);refine⟨_,rfl,(ixT (s5 _ _ ha) hat (.inl ⟨rfl,_,rfl,ifF w3 ?_⟩))⟩;refine⟨fun σ H'=>σ=[some gv,some (.ref p),some (.int most),some xv,some (.ref lp),some (.ref a),some (.ref a4),none]/\upd H4 b5 (.tup wto)=H', ?_, ?_⟩
   ·refine⟨_,rfl,(ixT (s5 _ _ ha) hat (.inl ⟨rfl,_,rfl, ?_⟩))⟩;cases ht with
    |call=>
     cases hfr4 with
     | @call _ _ _ _ _ q9 r9 us9 ws9 w9 hp9 hq9 hvs hr9 hts he9=>
      cases hts;exact ifT rfl ⟨_,rfl,(ixT (s5 _ _ hp9) rfl ⟨_,_,rfl,.inr ⟨_,SqT.of (s5 _ _ hr9),rfl⟩,.inl ⟨rfl,_,rfl,ifF (by simp;omega) ⟨rfl,rfl⟩⟩⟩)⟩
    |_=>exact ifF nZ (ifF nZ ⟨rfl,rfl⟩)
   rintro σ H' ⟨rfl,rfl⟩;exact⟨_,rfl,_,rfl,_,rfl,fr,v,fo,fs,r0,calls,deep,.ref a,xv,.ref a4,rfl,hfr4.mono (A4 s5),hx4.mono (A4 s5),ht,hen1,hRs.mono (A4 s5),hzl,λu H' sm h=>q4 u H' (s5.trans sm) h⟩
end
noncomputable abbrev LM:Stmt:=_B.top 13
noncomputable abbrev abZ:List Str:=["program","numbers","main"]
theorem sc_begun:FnScope abZ bdZ (B3 LM):=fS
structure Okk (s:Sta):Prop where
 len:s.pile.length<=10000
 fr:∀x∈s.pile,OQ x/\bdF x
 tm:∀t e,s.fo=.term t e->L7 e<=1000
 vl:∀v,s.fo=.val v->BdV v/\(∀r,v=.lst r->L7 r<=10000)/\(s.pile=[]->plv false v=true/\sz2 false v<=400000)
section
variable{P:Program}{w:World}{K:FZ}{mg:Str->Option Value}{base:Heap}{f:Addr}{fd:FuncData}{CZ CL EF NW:Addr}{DD CM EE OF:FuncData}
inductive spOnW(vs:List V)(H:Hp)(Q:VK):Prop
 |mk:∀(s:Sta) (r:Res) (D:List Dn) (most:Int) (gv sv:V),(vs=[gv,sv,.int most])->(StA H s sv)->(PgA H D gv)->(D.length<=1000)->(Okk s)->(Stp D most s r)->(∀u H',Same H H'->ReA H' r u->Q u H')->spOnW vs H Q
noncomputable def cEZ:Sp:=λvs H Q _=>spOnW vs H Q
theorem ok_onward(F:Fun K "onward" "onward" IF f fd)
  (Q4:Cn P w K mg base CX0 3 "onward_from_term" LA ZO)
  (P7:Cn P w K mg base CX0 5 "onward_from_value" LA cTZ):
  FnOk P w K mg base CX0 6 f fd LA cEZ:=by
 refine F.ok sc_onward (λvs H Q E h=> ?_) (λcdv A outer s H vs Q E hr h=> ?_)
 ·obtain⟨s,r,D,most,gv,sv,rfl,_⟩:=h;rfl
 obtain⟨⟨fo,pl,c,d⟩,r,D,most,gv,sv,rfl,hs,hg,hgl,hok,hst,q⟩:=h;have nd:=sc_onward.nd;have hu:=hr.units0;have hs0:=hs;obtain⟨p,fv,lv,rfl,hp,hf,hl⟩:=hs;refine⟨_,(A6 (B7 (B0 (kEq (K:=K) hu) (ixE K w (ixE K w (pv 1) A3) A3) A7 rfl) (A9 (B4 (cC Q4 hr (A0 (pv 0) (A0 (pv 1) (A0 (pv 2) A5)))))) B6)
   (A9 (B4 (cC P7 hr (A0 (pv 0) (A0 (pv 1) (A0 (pv 2) A5))))))), ?_⟩
 cases fo with
 |term t e=>
  cases hf with
  | @term _ _ pt u w1 hpt ht he=>
   refine⟨_,rfl,(ixT hp rfl (ixT hpt rfl (.inl ⟨rfl,_,rfl,ifT rfl ?_⟩)))⟩;exact⟨_,rfl,_,rfl,_,rfl,t,e,pl,c,d,r,D,most,gv,.ref p,rfl,hs0,hg,hgl,hok.len,hok.tm _ _ rfl,hst,q⟩
 |val v=>
  cases hf with
  | @val _ pt u hpt ht=>
   refine⟨_,rfl,(ixT hp rfl (ixT hpt rfl (.inl ⟨rfl,_,rfl,ifF nZ ?_⟩)))⟩;obtain⟨o1,o2,o3⟩:=hok.vl v rfl;exact⟨_,rfl,_,rfl,_,rfl,v,pl,c,d,r,D,most,gv,.ref p,rfl,hs0,hg,hgl,hok.len,hok.fr,o1,o2,o3,hst,q⟩
inductive spBegunW (vs:List V) (H:Hp) (Q:VK):Prop
 |mk:∀(D:List Dn) (d:Dn) (xs:List Vl) (us:List V) (gv:V) (a:Addr),(vs=[gv,.ref a])->(PgA H D gv)->(D.length<=1000)->((D.find? λd=>d.name==("main":Str))=some d)->(H a=some (.lst us))->(All2 (V1 H) xs us)->(d.pars.length=xs.length)->(xs.length<=1000)->(∀u H',Same H H'->StA H' ⟨.term d.body (env d.pars xs),[],0,1⟩ u->Q u H')->spBegunW vs H Q
noncomputable def SE:Sp:=λvs H Q _=>spBegunW vs H Q
theorem ok_begun(F:Fun K "begun" "begun" LM f fd)
  (K5:Cn P w K mg base CX0 1 "function_called" ZP bmZ)
  (T0:Cn P w K mg base CX0 1 "bound_to" ZY LW):
  FnOk P w K mg base CX0 2 f fd bdZ SE:=by
 refine F.ok sc_begun (λvs H Q E h=> ?_) (λcdv A outer s H vs Q E hr h=> ?_)
 ·obtain⟨D,d,xs,us,gv,a,rfl,_⟩:=h;rfl
 obtain⟨D,d,xs,us,gv,a,rfl,hg,hgl,hd,ha,hxs,hpl,hxl,q⟩:=h;have nd:=sc_begun.nd;have z4:(4:Nat)<=sizeLine:=by decide
 refine⟨_,(A6 (sS 2 nd (cC K5 hr (A0 (pv 0) (A0 A7 A5))))
   (A9 (B4 (A8 (A0 (A8 (A0 A7 (A0 (ixE K w (pv 2) A3) (A0 (cC T0 hr (A0 (ixE K w (pv 2) A3) (A0 (pv 1) A5))) A5)))) (A0 (A8 A5) (A0 A3 (A0 A3 A5)))))))), ?_⟩
 refine⟨_,rfl,D,d,"main",gv,rfl,hg,hgl,hd,λu H1 s1 ⟨p,pq,tv,e,hp,hpq,ht⟩=> ?_⟩;subst e;refine⟨_,rfl,(ixT hp rfl ⟨_,rfl,(ixT hp rfl ⟨_,rfl,pq,a,d.pars,xs,us,rfl,hpq,.inr (s1 _ _ ha),hxs.imp λ_ _ h=>h.mono (A4 s1),hpl,by omega,λev H2 s2 he=>⟨C7,λa1 ha1=>⟨(by show 0<=sizeLine;decide),λa2 ha2=>⟨z4,λa3 ha3=> ?_⟩⟩⟩⟩)⟩)⟩;have s3:=A1 ha1 (.tup [.str "term",tv,ev]);have s4:=A1 ha2 (.tup []);have s5:=A1 ha3 (.tup [.ref a1,.ref a2,.int 0,.int 1]);have s35:=s3.trans (s4.trans s5);exact q _ _ (s1.trans (s2.trans s35)) ⟨a3,.ref a1,.ref a2,rfl,A2,.term ((s4.trans s5) _ _ A2) (ht.mono (A4 (s2.trans s35))) (he.mono (A4 s35)),⟨a2,[],rfl,s5 _ _ A2,.nil⟩⟩
end
end _G
namespace _G
open PySem _L _B
inductive KA (H:Hp):Kd->V->Prop
 |num {p}:H p=some (.tup [.str "number"])->KA H .num (.ref p)
 |tru {p}:H p=some (.tup [.str "truth"])->KA H .tru (.ref p)
 |lst {k p u}:H p=some (.tup [.str "list",u])->KA H k u->KA H (.lst k) (.ref p)
 |fn {a b p u w}:H p=some (.tup [.str "fn",u,w])->KA H a u->KA H b w->KA H (.fn a b) (.ref p)
theorem KA.mono{H H':Hp}(m:Mo H H'){k:Kd}{v:V}(h:KA H k v):KA H' k v:=by
 induction h with
 |num h=>exact .num (m _ _ h)
 |tru h=>exact .tru (m _ _ h)
 |lst h _ i=>exact .lst (m _ _ h) i
 |fn h _ _ i1 i2=>exact .fn (m _ _ h) i1 i2
noncomputable def dk:Kd->Nat
 | .num=>1
 | .tru=>1
 | .lst k=>dk k+1
 | .fn a b=>max (dk a) (dk b)+1
theorem MC(k:Kd):1<=dk k:=by cases k<;>simp[dk]
deriving instance DecidableEq for Kd
noncomputable def kis:Kd->List (Str⊕Kd)
 | .num=> [.inl "number"]
 | .tru=> [.inl "truth"]
 | .lst a=> [.inl "list",.inr a]
 | .fn a b=> [.inl "fn",.inr a,.inr b]
theorem ZN{k k':Kd}(h:kis k=kis k'):k=k':=by
 cases k<;>cases k'<;>simp[kis]at h<;>first|rfl|(simp[h];done)|(exfalso;revert h;decide)|(obtain⟨h,_⟩:=h;exfalso;revert h;decide)
noncomputable def KI(H:Hp):Str⊕Kd->V->Prop
 | .inl x,v=>v=.str x
 | .inr k,v=>KA H k v
theorem KA.its{H:Hp}{k:Kd}{v:V}(h:KA H k v):∃p us,v=.ref p/\H p=some (.tup us)/\All2 (KI H) (kis k) us:=by
 cases h with
 |num h=>exact⟨_,_,rfl,h,.cons rfl .nil⟩
 |tru h=>exact⟨_,_,rfl,h,.cons rfl .nil⟩
 |lst h h1=>exact⟨_,_,rfl,h,.cons rfl (.cons h1 .nil)⟩
 |fn h h1 h2=>exact⟨_,_,rfl,h,.cons rfl (.cons h1 (.cons h2 .nil))⟩
theorem QE{k:Kd}{j:Nat}{i:Str⊕Kd}(h:(kis k)[j]? =some i):(j=0/\∃x,i=.inl x)\/(j≠0/\∃k',i=.inr k'/\dk k'<dk k):=by
 cases k with
 |num|tru=>
  match j,h with
  |0,h=>cases h;exact .inl ⟨rfl,_,rfl⟩
  |j+1,h=>simp[kis]at h
 |lst a=>
  match j,h with
  |0,h=>cases h;exact .inl ⟨rfl,_,rfl⟩
  |1,h=>cases h;exact .inr ⟨by decide,_,rfl,by simp[dk]⟩
  |j+2,h=>simp[kis]at h
 |fn a b=>
  match j,h with
  |0,h=>cases h;exact .inl ⟨rfl,_,rfl⟩
  |1,h=>cases h;exact .inr ⟨by decide,_,rfl,by simp[dk];omega⟩
  |2,h=>cases h;exact .inr ⟨by decide,_,rfl,by simp[dk];omega⟩
  |j+3,h=>simp[kis]at h
theorem TY{k k':Kd}{xs ys:List V}(h1:(kis k).length=xs.length)(h2:(kis k').length=ys.length):AB (λj=>decide ((kis k)[j]? =(kis k')[j]?)) xs ys=decide (k=k'):=by
 unfold AB;rw[<-h1,<-h2,Bool.eq_iff_iff];simp only[Bool.and_eq_true,all_eq_true,mem_range,decide_eq_true_eq,beq_iff_eq];constructor
 ·intro⟨h,hl⟩;refine ZN (List.ext_getElem? λj=> ?_);by_cases hj:j<(kis k).length
  ·exact h j (by omega)
  ·rw[List.getElem?_eq_none (by omega),List.getElem?_eq_none (by omega)]
 ·intro h;subst h;simp
theorem ML{K:FZ}{H:Hp}{n:Nat}{k k':Kd}{x y:V}(ih:∀ {k k':Kd} {x y:V},dk k<=n->KA H k x->KA H k' y->EqB K H n x y (decide (k=k')))(hd:dk k<=n+1)(h:KA H k x)(h':KA H k' y):
  ∃a b xs ys e,x=.ref a/\y=.ref b/\SqT K H a xs/\SqT K H b ys/\(∀(j:Nat) u v,xs[j]? =some u->ys[j]? =some v->EqB K H n u v (e j))/\AB e xs ys=decide (k=k'):=by
 obtain⟨p,us,rfl,hp,hu⟩:=h.its;obtain⟨q,ws,rfl,hq,hw⟩:=h'.its;refine⟨p,q,us,ws,_,rfl,rfl,SqT.of hp,SqT.of hq,λj u v eu ev=> ?_,TY hu.len hw.len⟩;obtain⟨a,ha,ra⟩:=hu.get eu;obtain⟨b,hb,rb⟩:=hw.get ev;rcases QE ha with⟨rfl,x,rfl⟩|⟨hj,k1,rfl,hk1⟩
 ·rcases QE hb with⟨_,y,rfl⟩|⟨hj,_⟩
  ·cases(ra:u=_);cases(rb:v=_);rw[ha,hb,show decide (some (Sum.inl x:Str⊕Kd)=some (Sum.inl y))=(x==y) by rw[Bool.eq_iff_iff];simp];exact .str
  ·exact absurd rfl hj
 ·rcases QE hb with⟨hj0,_⟩|⟨_,k2,rfl,_⟩
  ·exact absurd hj0 hj
  ·rw[ha,hb,show decide (some (Sum.inr k1:Str⊕Kd)=some (Sum.inr k2))=decide (k1=k2) by rw[Bool.eq_iff_iff];simp];exact ih (by omega) ra rb
theorem OT{K:FZ}{H:Hp}:∀ {n:Nat} {k k':Kd} {x y:V},dk k<=n->KA H k x->KA H k' y->EqB K H n x y (decide (k=k'))
 |0,k,_,_,_,h,_,_=>absurd h (by have:=MC k;omega)
 |n+1,k,k',_,_,hd,h,h'=>by
  obtain⟨a,b,xs,ys,e,rfl,rfl,ha,hb,he,h9⟩:=ML (K:=K) (n:=n) (λhd h h'=>OT hd h h') hd h h';rw[<-h9];exact .tup ha hb he
theorem CD{K:FZ}{H:Hp}{k k':Kd}{x y:V}{Q:VK}(h:KA H k x)(h':KA H k' y)(hd:dk k<=51)(q:Q (.bl (decide (k=k'))) H):WH K x y H Q:=by
 obtain⟨a,b,xs,ys,e,rfl,rfl,ha,hb,he,h9⟩:=ML (K:=K) (n:=50) (λhd h h'=>OT hd h h') hd h h';exact⟨a,b,xs,ys,50,e,rfl,rfl,ha,hb,Nat.le_refl _,he,by rw[h9];exact q⟩
noncomputable def Kl(l:Addr)(H H':Hp):Prop:=∀b o,H b=some o->b≠l->H' b=some o
theorem Kl.refl(l:Addr)(H:Hp):Kl l H H:=λ_ _ h _=>h
theorem Kl.trans{l:Addr}{H H1 H2:Hp}(a:Kl l H H1)(b:Kl l H1 H2):Kl l H H2:=λc o h n=>b c o (a c o h n) n
theorem Kl.of{l:Addr}{H H':Hp}(h:Same H H'):Kl l H H':=λb o q _=>h b o q
theorem Kl.upd{l:Addr}{H:Hp}(o:HO):Kl l H (upd H l o):=λb u q n=>by rw[B9 n];exact q
theorem Kl.tups{l:Addr}{H H':Hp}{xs:List V}(k:Kl l H H')(h:H l=some (.lst xs)):Mo H H':=λb ys e=>k b _ e (BL e h (by intro z;cases z))
structure DA (H:Hp) (m:Nat) (g:Cx) (d:Addr) (kvs:List (Key×V)) (ns:List Str):Prop where
 at_:H d=some (.dK kvs)
 keys:kvs.map (·.1)=ns.map Sum.inr
 len:ns.length<=m
 val:∀z v,R0 kvs (.inr z)=some v->∃k,g z=some k/\KA H k v/\dk k<=8
inductive DAt (H:Hp) (m:Nat) (g:Cx) (d:Addr):Prop
 |mk:∀kvs ns,(DA H m g d kvs ns)->DAt H m g d
theorem DAt.kl{l:Addr}{H H':Hp}{xs:List V}{m:Nat}{g:Cx}{d:Addr}(k:Kl l H H')(hl:H l=some (.lst xs))(h:DAt H m g d):DAt H' m g d:=by
 obtain⟨kvs,ns,a,b,c,e⟩:=h;refine⟨kvs,ns,k _ _ a (BL a hl (by intro z;cases z)),b,c,λz v hv=> ?_⟩;obtain⟨q,q1,q2,q3⟩:=e z v hv;exact⟨q,q1,q2.mono (k.tups hl),q3⟩
structure GS (H:Hp) (c l:Addr) (ns:List Int) (a sh ms:Int):Prop where
 cs:H c=some (.lst (ns.map V.int))
 sp:H l=some (.lst [.int a,.int sh,.int ms])
 ne:c≠l
 a0:0<=a
 nl:ns.length<=63
theorem GS.kl{H H':Hp}{c l:Addr}{ns:List Int}{a a' sh ms:Int}(g:GS H c l ns a sh ms)(k:Kl l H H')(e:H' l=some (.lst [.int a',.int sh,.int ms]))(h:a<=a'):GS H' c l ns a' sh ms:=⟨k _ _ g.cs g.ne,e,g.ne,Int.le_trans g.a0 h,g.nl⟩
theorem GS.same{H H':Hp}{c l:Addr}{ns:List Int}{a sh ms:Int}(g:GS H c l ns a sh ms)(k:Same H H'):GS H' c l ns a sh ms:=⟨k _ _ g.cs,k _ _ g.sp,g.ne,g.a0,g.nl⟩
end _G
namespace _G
open PySem _L _B
seal PE PT PW PA PS PSs PTs PI _L.PG PGs PO
noncomputable abbrev Z4:Stmt:=_B.top 34
noncomputable abbrev DX:Stmt:=_B.top 37
noncomputable abbrev DY:Stmt:=_B.top 38
noncomputable abbrev DO:Stmt:=_B.top 39
noncomputable abbrev IU:List Str:=["_law_script","_law_k"]
theorem sc_law_cell_at:FnScope IU JG (B3 Z4):=fS
noncomputable abbrev OP:List Str:=["_law_cells","_law_spot","_law_base"]
theorem sc_law_cell:FnScope OP ES (B3 DX):=fS
noncomputable abbrev PJ:List Str:=["_law_names_here","_law_name_here","_law_kind_here","_law_made"]
theorem sc_law_with:FnScope PJ EK (B3 DY):=fS
noncomputable abbrev QO:List Str:=["_law_cell_here","_law_number","_law_some_here"]
theorem sc_law_kind:FnScope QO q6L (B3 DO):=fS
structure NoL (mg:Str->Option Value):Prop where
 len_:mg "len"=none
 int_:mg "int"=none
 range_:mg "range"=none
 dict_:mg "dict"=none
 sorted_:mg "sorted"=none
 tuple_:mg "tuple"=none
 list_:mg "list"=none
 zip_:mg "zip"=none
 set_:mg "set"=none
 isinstance_:mg "isinstance"=none
 bool_:mg "bool"=none
 all_:mg "all"=none
 abs_:mg "abs"=none
 str_:mg "str"=none
noncomputable def E6(ns:List Int)(k:Int):Int:=(ns[k.toNat]?).getD 0
theorem lg{b:Int}(h0:0<b)(h1:b<2^60):b≠0/\b.natAbs.log2<9000:=⟨by omega,by
 have:b.natAbs≠0:=by omega
 have:=(Nat.log2_lt this).mpr (show b.natAbs<2^60 by omega);omega⟩
theorem ml{a b:Int}(h: -(2^63)<a/\a<2^63):IntMulOk a b:=IntMulOk.of_left (intBits_le_64 (by omega) (by omega))
theorem mr{a b:Int}(h: -(2^63)<b/\b<2^63):IntMulOk a b:=IntMulOk.of_right (intBits_le_64 (by omega) (by omega))
theorem bsZ{ns:List Int}(x:Int)(h:(0:Int)<((ns.map V.int).length:Nat)):∃y,atI (ns.map V.int) (x%((ns.map V.int).length:Nat))=some (.int y):=by
 have h1:=Int.emod_nonneg x (Int.ne_of_gt h);have h2:=Int.emod_lt_of_pos x h;generalize x%((ns.map V.int).length:Nat)=j at h1 h2;have h3:j.toNat<ns.length:=by rw[length_map]at h2;omega
 have e:atI (ns.map V.int) ((j.toNat:Nat):Int)=some (.int ns[j.toNat]):=D5 (by rw[getElem?_map,List.getElem?_eq_getElem h3];rfl);rw[show((j.toNat:Nat):Int)=j by omega]at e;exact⟨_,e⟩
section
variable{P:Program}{w:World}{K:FZ}{mg:Str->Option Value}{base:Heap}{f:Addr}{fd:FuncData}
inductive spCellVW(K:FZ)(vs:List V)(H:Hp)(Q:VK):Prop
 |mk:∀(a:Addr) (ns:List Int) (k:Int),(vs=[.ref a,.int k])->(SqL K H a (ns.map V.int))->(0<=k)->(Q (.int (E6 ns k)) H)->spCellVW K vs H Q
noncomputable def AR(K:FZ):Sp:=λvs H Q _=>spCellVW K vs H Q
theorem ok_law_cell_at(F:Fun K "_law_cell_at" "_law_cell_at" Z4 f fd)(B:NoL mg):FnOk P w K mg base CX0 1 f fd JG (AR K):=by
 refine F.ok sc_law_cell_at (λvs H Q E h=> ?_) (λcdv A outer s H vs Q E hr h=> ?_)
 ·obtain⟨a,ns,k,rfl,_⟩:=h;rfl
 obtain⟨a,ns,k,rfl,hS,hk,q⟩:=h;have nd:=sc_law_cell_at.nd;refine⟨_,(A6 (B7 (B0 GL (pv 1) (kL K B.len_ (pv 0)) rfl) (A9 (B4 (ixE K w (pv 0) (pv 1)))) B6)
   (A9 (B4 A3))), ?_⟩
 refine⟨_,rfl,_,rfl,_,_,rfl,.inl ⟨_,hS,rfl⟩,_,_,rfl,rfl,_,rfl,F9 (λc=> ?_) (λc=> ?_)⟩
 ·have c':k<((ns.map V.int).length:Nat):=of_decide_eq_true c;rw[length_map]at c';have hk':k.toNat<ns.length:=by omega
  have ev:E6 ns k=ns[k.toNat]:=by unfold E6;rw[List.getElem?_eq_getElem hk'];rfl
  have e:atI (ns.map V.int) ((k.toNat:Nat):Int)=some (.int ns[k.toNat]):=D5 (by rw[getElem?_map,List.getElem?_eq_getElem hk'];rfl);have ek:((k.toNat:Nat):Int)=k:=by omega
  rw[ek]at e;rw[ev]at q;exact⟨_,rfl,_,rfl,.inl ⟨_,_,_,_,rfl,rfl,hS,e,q⟩⟩
 ·have c':¬k<((ns.map V.int).length:Nat):=λz=>c (decide_eq_true z);rw[length_map]at c';have ev:E6 ns k=0:=by unfold E6;rw[List.getElem?_eq_none (by omega)];rfl
  rw[ev]at q;exact q
inductive spCellW (vs:List V) (H:Hp) (Q:VK):Prop
 |mk:∀(c l:Addr) (ns:List Int) (a sh ms:Int),(vs=[.ref c,.ref l])->(GS H c l ns a sh ms)->(a<2^50)->(∀(x:Int) H',0<=x->x<1000003->Kl l H H'->H' l=some (.lst [.int (a+1),.int sh,.int ms])->Q (.int x) H')->spCellW vs H Q
noncomputable def DM:Sp:=λvs H Q _=>spCellW vs H Q
theorem ok_law_cell(F:Fun K "_law_cell" "_law_cell" DX f fd)(B:NoL mg):FnOk P w K mg base CX0 1 f fd ES DM:=by
 refine F.ok sc_law_cell (λvs H Q E h=> ?_) (λcdv A outer s H vs Q E hr h=> ?_)
 ·obtain⟨c,l,ns,a,sh,ms,rfl,_⟩:=h;rfl
 obtain⟨c,l,ns,a,sh,ms,rfl,hG,ha,q⟩:=h;have nd:=sc_law_cell.nd;have a0:=hG.a0;refine⟨_,(A6 (Z7 (B5 AC (ixE K w (pv 1) A3) A3) (DU (pv 1) A3 AF))
   (A6 (sS 2 nd (B5 U1 (ixE K w (pv 1) A3) A3))
   (A6 (D7 (B7 (B0 BF (kL K B.len_ (pv 0)) A3 rfl) (A9 (sS 2 nd (B5 AC (pv 2) (B5 U1 (ixE K w (pv 0) (B5 C3 (ixE K w (pv 1) A3) (kL K B.len_ (pv 0)))) (B5 AC A3 (B5 C0 (ixE K w (pv 1) A3) (kL K B.len_ (pv 0)))))))) B6))
   (A9 (B4 (B5 C3 (B5 U1 (pv 2) A3) A3)))))), ?_⟩
 refine⟨_,rfl,(ixL hG.sp rfl (.inl ⟨_,_,rfl,rfl,_,rfl,l,_,0,0,rfl,rfl,hG.sp,rfl, ?_⟩))⟩;have s1:Kl l H (upd H l (.lst [.int (a+1),.int sh,.int ms])):=Kl.upd _;have hc1:=s1 _ _ hG.cs hG.ne;have hl1:(upd H l (.lst [.int (a+1),.int sh,.int ms])) l=some (.lst [.int (a+1),.int sh,.int ms]):=A2;show S9 _ _ _ _ (upd H l (.lst [.int (a+1),.int sh,.int ms]));generalize upd H l (.lst [.int (a+1),.int sh,.int ms])=H1 at s1 hc1 hl1⊢;refine⟨_,rfl,(ixL hl1 rfl ⟨_,_,rfl,rfl,mr ⟨by decide,by decide⟩, ?_⟩)⟩;refine⟨fun σ' H'=>∃b:Int,σ'=[some (.ref c),some (.ref l),some (.int b)]/\H1=H', ?_, ?_⟩
 ·refine⟨_,rfl,_,_,rfl,.inl ⟨_,SqL.of hc1,rfl⟩,_,_,rfl,rfl,_,rfl,F9 (λe=> ?_) (λe=>⟨_,rfl,rfl⟩)⟩;have e':(0:Int)<((ns.map V.int).length:Nat):=of_decide_eq_true e;obtain⟨y,hy⟩:=bsZ (a+1) e';have hb:((ns.map V.int).length:Int)<2^60:=by rw[length_map];have:=hG.nl;omega
  have hq: -(2^63)<1+(a+1).fdiv ((ns.map V.int).length:Nat)/\1+(a+1).fdiv ((ns.map V.int).length:Nat)<2^63:=by
   have h1:=Int.fdiv_eq_ediv_of_nonneg (a+1) (Int.le_of_lt e');have h2:0<=(a+1)/((ns.map V.int).length:Nat):=Int.ediv_nonneg (by omega) (Int.le_of_lt e');have h3:(a+1)/((ns.map V.int).length:Nat)<=a+1:=Int.ediv_le_self _ (by omega);omega
  exact⟨_,rfl,_,rfl,_,rfl,(ixL hl1 rfl ⟨_,rfl,_,_,rfl,.inl ⟨_,SqL.of hc1,rfl⟩,_,_,rfl,rfl,e',(ixL hc1 hy ⟨_,rfl,(ixL hl1 rfl ⟨_,rfl,_,_,rfl,.inl ⟨_,SqL.of hc1,rfl⟩,_,_,rfl,rfl,lg e' hb,.inl ⟨_,_,rfl,rfl,_,_,rfl,rfl,mr hq,.inl ⟨_,_,rfl,rfl,_,rfl,rfl⟩⟩⟩)⟩)⟩)⟩
 rintro _ _ ⟨b,rfl,rfl⟩;have g1:=Int.emod_nonneg (b*48271) (by decide:(1000003:Int)≠0);have g2:=Int.emod_lt_of_pos (b*48271) (by decide:(0:Int)<1000003);exact⟨_,rfl,_,_,rfl,rfl,mr ⟨by decide,by decide⟩,_,_,rfl,rfl,(by decide:(0:Int)<1000003),q _ _ g1 g2 s1 hl1⟩
inductive spWithW (vs:List V) (H:Hp) (Q:VK):Prop
 |mk:∀(d:Addr) (m:Nat) (g:Cx) (z:Str) (k:Kd) (kv:V),(vs=[.ref d,.str z,kv])->(DAt H m g d)->(m<=1000)->(KA H k kv)->(dk k<=8)->(∀(r:Addr) H',Same H H'->DAt H' (m+1) (up g z k) r->Q (.ref r) H')->spWithW vs H Q
noncomputable def CG:Sp:=λvs H Q _=>spWithW vs H Q
theorem MS(kvs:List (Key×V))(ns:List Str)(z:Str)(v:V)(h:kvs.map (·.1)=ns.map Sum.inr):∃ns':List Str,(W9 kvs (.inr z) v).map (·.1)=ns'.map Sum.inr/\ns'.length<=ns.length+1:=by
 unfold W9;split
 ·refine⟨ns, ?_,le_succ _⟩;rw[List.map_map,<-h];apply List.map_congr_left;intro p _;show(if p.1=Sum.inr z then(p.1,v)else p).1=p.1;split<;>rfl
 ·exact⟨ns++ [z],by simp[h],by simp⟩
theorem ok_law_with(F:Fun K "_law_with" "_law_with" DY f fd)(B:NoL mg):FnOk P w K mg base CX0 1 f fd EK CG:=by
 refine F.ok sc_law_with (λvs H Q E h=> ?_) (λcdv A outer s H vs Q E hr h=> ?_)
 ·obtain⟨d,m,g,z,k,kv,rfl,_⟩:=h;rfl
 obtain⟨d,m,g,z,k,kv,rfl,⟨kvs,ns,hD⟩,hm,hk,hdk,q⟩:=h;have nd:=sc_law_with.nd;have zz:(2000:Nat)<=sizeLine:=by decide
 have hkl:kvs.length=ns.length:=by have:=congrArg List.length hD.keys;simpa using this
 have hnl:=hD.len;refine⟨_,(A6 (sS 3 nd (F6 acZ rfl B.dict_ QV (A0 (pv 0) A5)))
   (A6 (Z7 (pv 2) (DU (pv 3) (pv 1) (XE hr.units)))
   (A9 (B4 (pv 3))))), ?_⟩
 refine⟨_,rfl,d,kvs,rfl,.inl hD.at_,λp hp=> ?_⟩;have s1:=A1 hp (.dK kvs);refine⟨_,rfl,_,rfl,_,rfl,p,_,rfl,DPut.k (k:=.inr z) A2 (by omega), ?_⟩;have e1:upd (upd H p (.dK kvs)) p (.dK (W9 kvs (.inr z) kv))=upd H p (.dK (W9 kvs (.inr z) kv)):=by
  funext b;unfold upd;split<;>rfl
 rw[e1];have s2:=A1 hp (.dK (W9 kvs (.inr z) kv));obtain⟨ns',h1,h2⟩:=MS kvs ns z kv hD.keys;refine⟨_,rfl,q p _ s2 ⟨_,ns',A2,h1,by omega,λy v hv=> ?_⟩⟩;rw[MQ]at hv;by_cases c:y=z
 ·subst c;rw[if_pos rfl]at hv;cases hv;exact⟨k,by simp[up],hk.mono (A4 s2),hdk⟩
 ·rw[if_neg (by intro e;exact c (by injection e))]at hv;obtain⟨k',q1,q2,q3⟩:=hD.val y v hv;exact⟨k',by unfold up;rw[if_neg (λe=>c e.symm)];exact q1,q2.mono (A4 s2),q3⟩
inductive spKindW (vs:List V) (H:Hp) (Q:VK):Prop
 |mk:∀n:Int,(vs=[.int n])->(∀(k:Kd) (v:V) H',Same H H'->KA H' k v->dk k<=3->Q v H')->spKindW vs H Q
noncomputable def IE:Sp:=λvs H Q _=>spKindW vs H Q
theorem ok_law_kind(F:Fun K "_law_kind" "_law_kind" DO f fd):FnOk P w K mg base CX0 1 f fd q6L IE:=by
 refine F.ok sc_law_kind (λvs H Q E h=> ?_) (λcdv A outer s H vs Q E hr h=> ?_)
 ·obtain⟨n,rfl,_⟩:=h;rfl
 obtain⟨n,rfl,q⟩:=h;have nd:=sc_law_kind.nd;refine⟨_,(A6 (sS 1 nd (A8 (A0 A7 A5)))
   (A6 (sS 2 nd (K1 (A0 (pv 1) (A0 (pv 1) (A0 (A8 (A0 A7 A5)) (A0 (A8 (A0 A7 (A0 (pv 1) A5))) (A0 (A8 (A0 A7 (A0 (pv 1) (A0 (pv 1) A5)))) (A0 (A8 (A0 A7 (A0 (A8 (A0 A7 (A0 (pv 1) A5))) A5))) A5))))))))
   (A6 (sS 2 nd (B5 AC (pv 2) (K1 (A0 (A8 (A0 A7 (A0 (pv 1) (A0 (A8 (A0 A7 (A0 (pv 1) A5))) A5)))) (A0 (A8 (A0 A7 (A0 (A8 (A0 A7 (A0 (pv 1) (A0 (pv 1) A5)))) A5))) (A0 (A8 (A0 A7 (A0 (A8 (A0 A7 A5)) (A0 (pv 1) A5)))) A5))))))
   (A9 (B4 (ixE K w (B5 AC (pv 2) (K1 (A0 (A8 (A0 A7 (A0 (pv 1) (A0 (A8 (A0 A7 (A0 (pv 1) (A0 (pv 1) A5)))) A5)))) (A0 (A8 (A0 A7 (A0 (A8 (A0 A7 A5)) A5))) A5)))) (B5 C3 (pv 0) A3))))))), ?_⟩
 have z6:(6:Nat)<=sizeLine:=by decide
 have z9:(6+3:Nat)<=sizeLine:=by decide
 have z11:(9+2:Nat)<=sizeLine:=by decide
 refine⟨K0,λa0 h0=> ?_⟩;refine⟨_,rfl,_,rfl,K0,λa1 h1=>⟨_,rfl,C5,λa2 h2=>⟨_,rfl,_,rfl,C7,λa3 h3=>⟨_,rfl,C5,λa4 h4=>⟨C5,λa5 h5=>⟨z6,λl1 hl1=> ?_⟩⟩⟩⟩⟩⟩;have t0:=A1 h0 (.tup [.str "number"]);have t1:=A1 h1 (.tup [.str "truth"]);have t2:=A1 h2 (.tup [.str "list",.ref a0]);have t3:=A1 h3 (.tup [.str "fn",.ref a0,.ref a0]);have t4:=A1 h4 (.tup [.str "list",.ref a0]);have t5:=A1 h5 (.tup [.str "list",.ref a4]);have tl:=A1 hl1 (.lst [.ref a0,.ref a0,.ref a1,.ref a2,.ref a3,.ref a5]);have sA:Same H _:=t0.trans (t1.trans (t2.trans (t3.trans (t4.trans (t5.trans tl)))));have n0:=KA.num ((t1.trans (t2.trans (t3.trans (t4.trans (t5.trans tl))))) _ _ A2);have n1:=KA.tru ((t2.trans (t3.trans (t4.trans (t5.trans tl)))) _ _ A2);have n2:=KA.lst ((t3.trans (t4.trans (t5.trans tl))) _ _ A2) n0;have n3:=KA.fn ((t4.trans (t5.trans tl)) _ _ A2) n0 n0;have n4:=KA.lst ((t5.trans tl) _ _ A2) n0;have n5:=KA.lst (tl _ _ A2) n4;have hl:(upd _ l1 (.lst [.ref a0,.ref a0,.ref a1,.ref a2,.ref a3,.ref a5])) l1=some (.lst [.ref a0,.ref a0,.ref a1,.ref a2,.ref a3,.ref a5]):= @A2 (upd (upd (upd (upd (upd (upd H a0 (.tup [.str "number"])) a1 (.tup [.str "truth"])) a2 (.tup [.str "list",.ref a0])) a3 (.tup [.str "fn",.ref a0,.ref a0])) a4 (.tup [.str "list",.ref a0])) a5 (.tup [.str "list",.ref a4])) l1 _;show S9 _ _ _ [some (.int n),some (.ref a0),some (.ref l1)] (upd (upd (upd (upd (upd (upd (upd H a0 (.tup [.str "number"])) a1 (.tup [.str "truth"])) a2 (.tup [.str "list",.ref a0])) a3 (.tup [.str "fn",.ref a0,.ref a0])) a4 (.tup [.str "list",.ref a0])) a5 (.tup [.str "list",.ref a4])) l1 (.lst [.ref a0,.ref a0,.ref a1,.ref a2,.ref a3,.ref a5]));generalize upd (upd (upd (upd (upd (upd (upd H a0 (.tup [.str "number"])) a1 (.tup [.str "truth"])) a2 (.tup [.str "list",.ref a0])) a3 (.tup [.str "fn",.ref a0,.ref a0])) a4 (.tup [.str "list",.ref a0])) a5 (.tup [.str "list",.ref a4])) l1 (.lst [.ref a0,.ref a0,.ref a1,.ref a2,.ref a3,.ref a5])=H1 at sA n0 n1 n2 n3 n4 n5 hl⊢;clear t0 t1 t2 t3 t4 t5 tl h0 h1 h2 h3 h4 h5 hl1;refine⟨_,rfl,_,rfl,_,rfl,C5,λa6 h6=>⟨C7,λa7 h7=>⟨_,rfl,_,rfl,C7,λa8 h8=>⟨C5,λa9 h9=>⟨K0,λa10 h10=>⟨_,rfl,C7,λa11 h11=>⟨C7,λl2 hl2=> ?_⟩⟩⟩⟩⟩⟩⟩;have t6:=A1 h6 (.tup [.str "list",.ref a0]);have t7:=A1 h7 (.tup [.str "fn",.ref a0,.ref a6]);have t8:=A1 h8 (.tup [.str "fn",.ref a0,.ref a0]);have t9:=A1 h9 (.tup [.str "list",.ref a8]);have t10:=A1 h10 (.tup [.str "truth"]);have t11:=A1 h11 (.tup [.str "fn",.ref a10,.ref a0]);have tl:=A1 hl2 (.lst [.ref a7,.ref a9,.ref a11]);refine .inr (.inr ⟨l1,l2,_,_,rfl,rfl,(t6.trans (t7.trans (t8.trans (t9.trans (t10.trans (t11.trans tl)))))) _ _ hl,A2,z9,λl3 hl3=> ?_⟩);have tm:=A1 hl3 (.lst [.ref a0,.ref a0,.ref a1,.ref a2,.ref a3,.ref a5,.ref a7,.ref a9,.ref a11]);have e11:=t11.trans (tl.trans tm);have e10:=t10.trans e11;have e9:=t9.trans e10;have e8:=t8.trans e9;have e7:=t7.trans e8;have e6:=t6.trans e7;have sB:=sA.trans e6;have m0:=n0.mono (A4 e6);have m1:=n1.mono (A4 e6);have m2:=n2.mono (A4 e6);have m3:=n3.mono (A4 e6);have m5:=n5.mono (A4 e6);have m6:=KA.lst (e7 _ _ A2) m0;have m7:=KA.fn (e8 _ _ A2) m0 m6;have m8:=KA.fn (e9 _ _ A2) m0 m0;have m9:=KA.lst (e10 _ _ A2) m8;have m10:=KA.tru (e11 _ _ A2);have m11:=KA.fn ((tl.trans tm) _ _ A2) m10 m0;refine⟨_,rfl,_,rfl,_,rfl,_,rfl,C7,λa12 h12=>⟨C7,λa13 h13=>⟨K0,λa14 h14=>⟨C5,λa15 h15=>⟨C5,λl4 hl4=> ?_⟩⟩⟩⟩⟩;have t12:=A1 h12 (.tup [.str "fn",.ref a0,.ref a0]);have t13:=A1 h13 (.tup [.str "fn",.ref a0,.ref a12]);have t14:=A1 h14 (.tup [.str "truth"]);have t15:=A1 h15 (.tup [.str "list",.ref a14]);have t16:=A1 hl4 (.lst [.ref a13,.ref a15]);refine .inr (.inr ⟨l3,l4,_,_,rfl,rfl,(t12.trans (t13.trans (t14.trans (t15.trans t16)))) _ _ A2,A2,z11,λl5 hl5=> ?_⟩);have t17:=A1 hl5 (.lst [.ref a0,.ref a0,.ref a1,.ref a2,.ref a3,.ref a5,.ref a7,.ref a9,.ref a11,.ref a13,.ref a15]);have f15:=t15.trans (t16.trans t17);have f14:=t14.trans f15;have f13:=t13.trans f14;have f12:=t12.trans f13;have k0:=m0.mono (A4 f12);have k12:=KA.fn (f13 _ _ A2) k0 k0;have k13:=KA.fn (f14 _ _ A2) k0 k12;have k14:=KA.tru (f15 _ _ A2);have k15:=KA.lst ((t16.trans t17) _ _ A2) k14;refine⟨_,rfl,_,_,rfl,rfl,(by decide:(0:Int)<11), ?_⟩;have g1:=Int.emod_nonneg n (by decide:(11:Int)≠0);have g2:=Int.emod_lt_of_pos n (by decide:(0:Int)<11);obtain⟨j,(ej:n%11=(j:Int)),hj⟩:∃j:Nat,n%11=(j:Int)/\j<11:=⟨(n%11).toNat,by omega,by omega⟩;rw[ej];have sC:=sB.trans f12;have fin:∀ {HH:Hp},KA HH .num (.ref a0)->KA HH .tru (.ref a1)->KA HH (.lst .num) (.ref a2)->KA HH (.fn .num .num) (.ref a3)->KA HH (.lst (.lst .num)) (.ref a5)->KA HH (.fn .num (.lst .num)) (.ref a7)->KA HH (.lst (.fn .num .num)) (.ref a9)->KA HH (.fn .tru .num) (.ref a11)->KA HH (.fn .num (.fn .num .num)) (.ref a13)->KA HH (.lst .tru) (.ref a15)->∀v,[V.ref a0,.ref a0,.ref a1,.ref a2,.ref a3,.ref a5,.ref a7,.ref a9,.ref a11,.ref a13,.ref a15][j]? =some v->∃k,KA HH k v/\dk k<=3:=λ{HH} k0 k1 k2 k3 k5 k7 k9 k11 k13 k15 v hv=>by
  match j,hj,hv with
  |0,_,hv=>cases hv;exact⟨_,k0,by decide⟩
  |1,_,hv=>cases hv;exact⟨_,k0,by decide⟩
  |2,_,hv=>cases hv;exact⟨_,k1,by decide⟩
  |3,_,hv=>cases hv;exact⟨_,k2,by decide⟩
  |4,_,hv=>cases hv;exact⟨_,k3,by decide⟩
  |5,_,hv=>cases hv;exact⟨_,k5,by decide⟩
  |6,_,hv=>cases hv;exact⟨_,k7,by decide⟩
  |7,_,hv=>cases hv;exact⟨_,k9,by decide⟩
  |8,_,hv=>cases hv;exact⟨_,k11,by decide⟩
  |9,_,hv=>cases hv;exact⟨_,k13,by decide⟩
  |10,_,hv=>cases hv;exact⟨_,k15,by decide⟩
 have hat:([V.ref a0,.ref a0,.ref a1,.ref a2,.ref a3,.ref a5,.ref a7,.ref a9,.ref a11,.ref a13,.ref a15]:List V)[j]? =some (([V.ref a0,.ref a0,.ref a1,.ref a2,.ref a3,.ref a5,.ref a7,.ref a9,.ref a11,.ref a13,.ref a15]:List V)[j]'hj):=List.getElem?_eq_getElem hj;obtain⟨k,hk,hd⟩:=fin k0 (m1.mono (A4 f12)) (m2.mono (A4 f12)) (m3.mono (A4 f12)) (m5.mono (A4 f12)) (m7.mono (A4 f12)) (m9.mono (A4 f12)) (m11.mono (A4 f12)) k13 k15 _ hat;exact(ixL A2 (D5 hat) (q k _ _ sC hk hd))
end
noncomputable abbrev AX:Stmt:=_B.top 35
noncomputable abbrev W0:Stmt:=_B.top 36
noncomputable abbrev HV:List Str:=["_law_k","_law_shift","_law_letters","_law_size","_law_step","_law_rest","_law_at"]
theorem sc_law_name:FnScope HV bFZ (B3 AX):=fS
noncomputable abbrev BQ:List Str:=["_law_shift","_law_told","_law_found"]
theorem sc_law_names:FnScope BQ EL (B3 W0):=fS
theorem YF(ds:List Nat):Txt.join (Str.ofString "") (ds.map λd=>tx [d])=tx ds:=by
 have e:=eq_of_beq (PyProof.Rows.join_plain_closes (Str.ofString "") (ds.map λd=>tx [d]));rw[e];have e0:Str.ofString ""=tx []:=by decide +kernel
 rw[e0];induction ds with
 |nil=>rfl
 |cons d r ih=>
  cases r with
  |nil=>rfl
  |cons d2 r2=>
   show(tx [d]++tx [])++Str.join (tx []) ((d2::r2).map λd=>tx [d])=_;rw[ih (by
    have:=eq_of_beq (PyProof.Rows.join_plain_closes (Str.ofString "") ((d2::r2).map λd=>tx [d]));exact this),YS,YS]
   rfl
noncomputable def abc:List Nat:=[97,98,99,100,101,102,103,104,105,106,107,108,109,110,111,112,113,114,115,116,117,118,119,120,121,122]
theorem WX:Str.ofString "abcdefghijklmnopqrstuvwxyz"=tx abc:=by decide +kernel
theorem VI(x:Int):∃c,atI (tx abc).cps.toList (x%26)=some c:=by
 have h0:=Int.emod_nonneg x (show(26:Int)≠0 by decide);have h1:=Int.emod_lt_of_pos x (show(0:Int)<26 by decide);have h3:(x%26).toNat<abc.length:=by show _<26;omega
 have e:atI abc (((x%26).toNat:Nat):Int)=some abc[(x%26).toNat]:=D5 (List.getElem?_eq_getElem h3);rw[show(((x%26).toNat:Nat):Int)=x%26 by omega]at e;exact⟨_,e⟩
noncomputable abbrev AA(l:List Nat):List V:=l.map λd=>V.str (tx [d])
theorem WT(l:List Nat):AA l=(l.map λd=>tx [d]).map V.str:=by rw[List.map_map];rfl
theorem VU(l:List Nat)(j d:Nat):(AA l).set j (.str (tx [d]))=AA (l.set j d):=by rw[AA,AA,List.map_set]
theorem RX:(tx abc).length<=sizeLine:=by rw[YH];decide
theorem MU{ds:List Nat}{n:Int}(h:0<=n):P3 (AA ds) none (some n)=AA (ds.take n.toNat):=by
 have e:=PK (AA ds) n.toNat;have en:((n.toNat:Nat):Int)=n:=by omega
 rw[en]at e;rw[e,AA,AA,List.map_take]
theorem ZV(l:List Nat):((l.map λd=>tx [d]).map (·.length)).sum=l.length:=by
 induction l with
 |nil=>rfl
 |cons d r ih=>simp only[map_cons,sum_cons,length_cons,YH,ih];simp only[length_nil];omega
theorem TL(l:List Nat)(h:l.length<=100):((l.map λd=>tx [d]).map (·.length)).sum+(l.map λd=>tx [d]).length*(Str.ofString "").length<=sizeLine:=by
 have h2:(Str.ofString "").length=0:=by decide +kernel
 rw[ZV,h2];exact Nat.le_trans (show l.length+0<=100 by omega) (by decide)
theorem WY{n:Nat}{i:Int}(h0:0<=i)(h:i<n):ixN n i=some i.toNat:=by
 unfold ixN;rw[if_pos h0,if_pos h]
section
variable{P:Program}{w:World}{K:FZ}{mg:Str->Option Value}{base:Heap}{f aWZ:Addr}{fd a0Z:FuncData}
inductive spNameW(vs:List V)(H:Hp)(Q:VK):Prop
 |mk:∀(k:Nat) (sh:Int),(vs=[.int (k:Nat),.int sh])->(k<8)->(∀(z:Str) H',Same H H'->Q (.str z) H')->spNameW vs H Q
noncomputable def YR:Sp:=λvs H Q _=>spNameW vs H Q
theorem ok_law_name(F:Fun K "_law_name" "_law_name" AX f fd)(B:NoL mg):FnOk P w K mg base CX0 1 f fd bFZ YR:=by
 refine F.ok sc_law_name (λvs H Q E h=> ?_) (λcdv A outer s H vs Q E hr h=> ?_)
 ·obtain⟨k,sh,rfl,_⟩:=h;rfl
 obtain⟨k,sh,rfl,hk,q⟩:=h;have nd:=sc_law_name.nd;have hu:=hr.units0;refine⟨_,(A6 (BS (i:=2) nd rfl (Or.inr rfl) A7)
   (A6 (sS 3 nd (B5 AC A3 (B5 C3 (B5 C0 (pv 1) A3) A3)))
   (A6 (BS (i:=4) nd rfl (Or.inr rfl) (B5 U1 (pv 0) (F6 P6 rfl B.int_ FY (A0 (N4 (kEq (K:=K) hu) (B5 C3 (pv 1) A3) A3 rfl) A5))))
   (A6 (N2 (i:=5) nd rfl rfl (cS (N:=HV) (sc:=B3 AX) (caps:=[2,4,1]) (ns:=["_law_letters","_law_step","_law_shift"])) rfl rfl rfl (O6 rfl B.range_ (A0 A3 A5)) (λ_ _ _ _ _=>P5) (λ_ _ _ _ _=>(GM ix_str (pv 1) (B5 C3 (B5 AC (B5 AC (B5 C0 (pv 3) A3) (B5 U1 A3 (pv 0))) (pv 2)) A3) (λ_ _=>rfl))))
   (A6 (B7 (B0 (kEq (K:=K) hu) (B5 C3 (pv 1) A3) A3 rfl) (A9 (B4 (aqZ (K:=K) PySem.F.plainAttrs_str PySem.F.slot_str_join PySem.F.type_str_join (VG (K:=K)) A7 (A0 (C2 (kSl (K:=K)) (pv 5) C9 (C6 (B5 AC A3 (B5 C3 (B5 AC (B5 C0 (pv 1) A3) (pv 0)) A3)))) A5)))) B6)
   (A6 (sS 6 nd (B5 U1 (B5 C3 (B5 C0 (pv 1) A3) (pv 3)) (F6 P6 rfl B.int_ FY (A0 (N4 (kEq (K:=K) hu) (B5 C3 (pv 1) A3) A3 rfl) A5))))
   (A6 (Z7 (GM ix_str (pv 2) (B5 C3 (B5 AC (B5 C0 (pv 1) A3) (pv 0)) A3) (λ_ _=>rfl)) (DU (pv 5) (pv 6) AF))
   (A9 (B4 (aqZ (K:=K) PySem.F.plainAttrs_str PySem.F.slot_str_join PySem.F.type_str_join (VG (K:=K)) A7 (A0 (C2 (kSl (K:=K)) (pv 5) C9 (C6 (pv 3))) A5))))))))))), ?_⟩
 have L3:(3:Int)≠0/\(3:Int).natAbs.log2<9000:=lg (by decide) (by decide);have L24:(24:Int)≠0/\(24:Int).natAbs.log2<9000:=lg (by decide) (by decide);refine⟨_,rfl,_,_,rfl,rfl,L3,_,_,rfl,rfl,(by decide:(0:Int)<8),.inl ⟨_,_,rfl,rfl, ?_⟩⟩;refine⟨_,rfl,_,rfl,_,_,rfl,rfl,(by decide:(0:Int)<4),.inl ⟨rfl,.inl ⟨_,rfl,_,_,rfl,rfl,ml ⟨by omega,by omega⟩, ?_⟩⟩⟩;generalize((k:Nat):Int)*(if decide (V.int (sh%4)=V.int 0)=true then 1 else 0)=st;refine⟨8,rfl,by decide,by decide,P1 (n:=8) (λi ys H'=>H=H'/\∃ds:List Nat,ys=AA ds/\ds.length=i) ⟨rfl,[],rfl,rfl⟩ ?_ ?_ ?_⟩
 ·rintro i ys H' hi ⟨rfl,ds,rfl,hd⟩;rw[length_map,hd];exact Nat.le_trans hi (by decide)
 ·rintro i ys H' hi ⟨rfl,ds,rfl,hd⟩;refine T3 ?_;obtain⟨c,hc⟩:=VI (sh.fdiv 7+5*(0+((i:Nat):Int))+st);exact⟨_,rfl,_,rfl,_,_,rfl,rfl,lg (by decide) (by decide),_,rfl,_,_,rfl,rfl,ml ⟨by decide,by decide⟩,.inl ⟨_,_,rfl,rfl,_,rfl,.inl ⟨_,_,rfl,rfl,_,_,rfl,rfl,(by decide:(0:Int)<26),tx abc,_,c,congrArg V.str WX,rfl,RX,hc,rfl,ds++ [c],by rw[AA,AA,map_append];rfl,by rw[length_append,hd];rfl⟩⟩⟩
 ·rintro ys H' ⟨rfl,ds,rfl,hd⟩ l hl;have s1:=A1 hl (.lst (AA ds));have fin:∀ {HH:Hp} {p:Addr} {dd:List Nat},dd.length<=100->HH p=some (.lst (AA dd))->(∀HH',Same HH HH'->∀z,Q (.str z) HH')->WE K (.str "") [.ref p] HH Q:=λ{HH p dd} hl hp qq=>⟨"",p,_,rfl,rfl,.inl (SqL.of (by rw[hp,WT])),TL _ hl,by rw[YF];exact qq _ (Same.refl _) _⟩;refine⟨_,rfl,_,_,rfl,rfl,(by decide:(0:Int)<4),.inl ⟨rfl,_,rfl,F9 (λe=> ?_) (λe=> ?_)⟩⟩
  ·have g1:=Int.emod_nonneg (sh.fdiv 24+((k:Nat):Int)) (by decide:(8:Int)≠0);refine⟨rfl,_,rfl,_,rfl,_,_,rfl,rfl,L24,_,rfl,.inl ⟨_,_,rfl,rfl,_,_,rfl,rfl,(by decide:(0:Int)<8),.inl ⟨_,_,rfl,rfl,_,rfl,.inl ⟨l,_,rfl,SqL.of A2,λp hp=> ?_⟩⟩⟩⟩;have s2:=A1 hp (.lst (P3 (AA ds) none (some (1+(sh.fdiv 24+((k:Nat):Int))%8))));refine fin (dd:=ds.take (1+(sh.fdiv 24+((k:Nat):Int))%8).toNat) (by rw[length_take,hd];omega) (by rw[A2,MU (by omega)]) λHH' sm z=>q z _ (s1.trans (s2.trans sm))
  ·have g1:=Int.emod_nonneg (sh.fdiv 3) (by decide:(8:Int)≠0);have g2:=Int.emod_lt_of_pos (sh.fdiv 3) (by decide:(0:Int)<8);have gs:(0:Int)<1+sh.fdiv 3%8:=by omega
   have gs8:1+sh.fdiv 3%8<=8:=by omega
   generalize 1+sh.fdiv 3%8=sz at gs gs8⊢;have h1:=Int.emod_nonneg (sh.fdiv 24) (Int.ne_of_gt gs);have h2:=Int.emod_lt_of_pos (sh.fdiv 24) gs;refine⟨_,rfl,_,_,rfl,rfl,L24,_,rfl,_,_,rfl,rfl,gs,_,rfl,_,_,rfl,rfl,(by decide:(0:Int)<4),.inl ⟨rfl,.inl ⟨_,rfl,_,_,rfl,rfl,ml ⟨by omega,by omega⟩, ?_⟩⟩⟩;have ha:0<=sh.fdiv 24%sz*(if decide (V.int (sh%4)=V.int 1)=true then 1 else 0)/\sh.fdiv 24%sz*(if decide (V.int (sh%4)=V.int 1)=true then 1 else 0)<sz:=by
    split<;>omega
   generalize sh.fdiv 24%sz*(if decide (V.int (sh%4)=V.int 1)=true then 1 else 0)=a at ha⊢;obtain⟨c,hc⟩:=VI (sh.fdiv 11+((k:Nat):Int));refine⟨_,rfl,_,rfl,_,_,rfl,rfl,lg (by decide) (by decide),_,rfl,.inl ⟨_,_,rfl,rfl,_,_,rfl,rfl,(by decide:(0:Int)<26),tx abc,_,c,congrArg V.str WX,rfl,RX,hc,_,rfl,_,rfl,l,_,a,a.toNat,rfl,rfl,A2,WY ha.1 (by rw[length_map,hd];omega), ?_⟩⟩;have e2:upd (upd H l (.lst (AA ds))) l (.lst ((AA ds).set a.toNat (V.str ⟨#[c]⟩)))=upd H l (.lst (AA (ds.set a.toNat c))):=by
    rw[show(V.str ⟨#[c]⟩:V)=V.str (tx [c])from rfl,VU];funext b;unfold upd;split<;>rfl
   rw[e2];have s3:=A1 hl (.lst (AA (ds.set a.toNat c)));refine⟨rfl,_,rfl,_,rfl,_,rfl,.inl ⟨l,_,rfl,SqL.of A2,λp hp=> ?_⟩⟩;have s4:=A1 hp (.lst (P3 (AA (ds.set a.toNat c)) none (some sz)));refine fin (dd:=(ds.set a.toNat c).take sz.toNat) (by rw[length_take,List.length_set,hd];omega) (by rw[A2,MU (by omega)]) λHH' sm z=>q z _ (s3.trans (s4.trans sm))
theorem FG:∀(xs D:List Str),(xs.foldl dd D).length<=D.length+xs.length
 | [],D=>by simp
 |x::xs,D=>by
  rw[List.foldl_cons];have:=FG xs (dd D x);have h2:(dd D x).length<=D.length+1:=by unfold dd;split<;>simp
  simp only[length_cons];omega
theorem GH:∀(xs D:List Str),D.Nodup->(xs.foldl dd D).length=D.length+xs.length->(D++xs).Nodup
 | [],D,h,_=>by simpa using h
 |x::xs,D,h,e=>by
  rw[List.foldl_cons]at e;by_cases c:x∈D
  ·have:=FG xs (dd D x);have h2:dd D x=D:=by unfold dd;rw[if_pos c]
   rw[h2]at this e;simp only[length_cons]at e;omega
  ·have h2:dd D x=D++ [x]:=by unfold dd;rw[if_neg c]
   rw[h2]at e;have:=GH xs (D++ [x]) (List.nodup_append.mpr ⟨h,by simp,λa ha b hb e=>c (by rw[sZ hb]at e;exact e▸ha)⟩) (by rw[e];simp only[length_append,length_cons,length_nil];omega);rw[List.append_assoc]at this;exact this
noncomputable def told:List Str:=["def","if","then","else","let","in","fn","yes","no","head","tail","empty","not","main"]
noncomputable def NmsAt(H:Hp)(l:Addr)(ss:List Str):Prop:=H l=some (.lst (ss.map V.str))/\ss.length=8/\ss.Nodup/\("main":Str)∉ss
inductive spNamesW (vs:List V) (H:Hp) (Q:VK):Prop
 |mk:∀sh:Int,(vs=[.int sh])->(∀(l:Addr) (ss:List Str) H',Same H H'->NmsAt H' l ss->Q (.ref l) H')->spNamesW vs H Q
noncomputable def AV:Sp:=λvs H Q _=>spNamesW vs H Q
theorem ok_law_names(F:Fun K "_law_names" "_law_names" W0 f fd)(B:NoL mg)
  (DH:Cn P w K mg base CX0 1 "_law_name" bFZ YR):
  FnOk P w K mg base CX0 2 f fd EL AV:=by
 refine F.ok sc_law_names (λvs H Q E h=> ?_) (λcdv A outer s H vs Q E hr h=> ?_)
 ·obtain⟨sh,rfl,_⟩:=h;rfl
 obtain⟨sh,rfl,q⟩:=h;have nd:=sc_law_names.nd;have hu:=hr.units0;refine⟨_,(A6 (BS (i:=1) nd rfl (Or.inr rfl) (K1 (RE rfl)))
   (A6 (N2 (i:=2) nd rfl rfl (cS (N:=BQ) (sc:=B3 W0) (caps:=[0]) (ns:=EL)) rfl rfl rfl (O6 rfl B.range_ (A0 A3 A5)) (λ_ _ _ _ _=>P5) (λ_ _ _ _ _=>(cC DH hr (A0 (pv 0) (A0 (pv 1) A5)))))
   (A6 (D7 (B7 (PW.pt (IT (B0 GL (TJ (K:=K) rfl B.set_ rfl B.len_ rfl (A0 (pv 2) A5)) A3 rfl) (FL (B0 BF (kL K B.len_ (U2 (cS (N:=BQ) (sc:=B3 W0) (caps:=[1]) (ns:=["_law_told"])) rfl rfl rfl (W8 (K:=K) (pv 2)) (λ_ _ _ _ _=>(U6 (B0 (kIn (K:=K) (w:=w)) (pv 0) (pv 1) rfl))) (λ_ _ _ _ _=>(pv 0)))) A3 rfl)))) (A9 (B4 (K1 (A0 A7 (A0 A7 (A0 A7 (A0 A7 (A0 A7 (A0 A7 (A0 A7 (A0 A7 A5))))))))))) B6))
   (A9 (B4 (pv 2)))))), ?_⟩
 refine⟨by decide,λt ht=> ?_⟩;have s0:=A1 ht (.lst (told.map V.str));refine⟨8,rfl,by decide,by decide,P1 (n:=8) (λi ys H'=>Same (upd H t (.lst (told.map V.str))) H'/\∃ss:List Str,ys=ss.map V.str/\ss.length=i) ⟨Same.refl _,[],rfl,rfl⟩ ?_ ?_ ?_⟩
 ·rintro i ys H' hi ⟨_,ss,rfl,hd⟩;rw[length_map,hd];exact Nat.le_trans hi (by decide)
 ·rintro i ys H' hi ⟨sm,ss,rfl,hd⟩;refine T3 ?_;exact⟨_,rfl,_,rfl,i,sh,congrArg (λz=> [V.int z,V.int sh]) (Int.zero_add _),hi,λz H2 s2=>⟨sm.trans s2,ss++ [z],by rw[map_append];rfl,by rw[length_append,hd];rfl⟩⟩
 rintro ys H1 ⟨sm,ss,rfl,hd⟩ l hl;have s1:=A1 hl (.lst (ss.map V.str));have ht1:=(sm.trans s1) _ _ (show(upd H t (.lst (told.map V.str))) t=some (.lst (told.map V.str))from A2);have hl1:(upd H1 l (.lst (ss.map V.str))) l=some (.lst (ss.map V.str)):=A2;have s01:=s0.trans (sm.trans s1);show S9 _ _ _ [some (.int sh),some (.ref t),some (.ref l)] (upd H1 l (.lst (ss.map V.str)));generalize upd H1 l (.lst (ss.map V.str))=H2 at ht1 hl1 s01⊢;refine⟨fun σ' H'=>σ'=[some (.int sh),some (.ref t),some (.ref l)]/\Same H2 H'/\ss.Nodup/\("main":Str)∉ss, ?_, ?_⟩
 ·have other:∀H3,Same H2 H3->∀(D:Ends) (σ:St),D.rt=Q->cBZ (cZZ (V8 (tC (V.str (Str.ofString "a"))) (V8 (tC (V.str (Str.ofString "b"))) (V8 (tC (V.str (Str.ofString "c1"))) (V8 (tC (V.str (Str.ofString "c"))) (V8 (tC (V.str (Str.ofString "x"))) (V8 (tC (V.str (Str.ofString "ab"))) (V8 (tC (V.str (Str.ofString "if0"))) (V8 (tC (V.str (Str.ofString "y"))) PB))))))))) D σ H3:=λH3 s3 D σ hD=>by
   refine⟨by decide,λp hp=> ?_⟩;rw[hD];exact q p ["a","b","c1","c","x","ab","if0","y"] _ (s01.trans (s3.trans (A1 hp _))) ⟨A2,rfl,by decide +kernel,by decide +kernel⟩
  have zs:(8:Nat)<=1000:=by decide
  refine⟨_,rfl,l,ss,rfl,hl1,by omega,_,_,rfl,rfl,_,rfl,F9 (λc=>ifT rfl (other _ (Same.refl _) _ _ rfl)) (λc=> ?_)⟩;have c':¬(((ss.foldl dd []).length:Nat):Int)<8:=λz=>c (decide_eq_true z);have hle:=FG ss [];have hnd:ss.Nodup:=GH ss [] List.nodup_nil (by simp only[length_nil]at hle⊢;omega);refine⟨_,rfl,l,rfl,⟨_,SqL.of hl1⟩,X2 (xs:=ss.map V.str) (λi ys H'=>H2=H'/\ys.length<=i/\(ys=[]->∀j z,j<i->ss[j]? =some z->inV (.str z) (told.map V.str)=false)) ⟨rfl,Nat.le_refl _,λ_ j z hj=>absurd hj (Nat.not_lt_zero _)⟩ ?_ ?_ ?_⟩
  ·rintro i ys H' hi ⟨rfl,hy,_⟩;exact⟨SqL.of hl1,Nat.le_trans hy (Nat.le_trans hi (by rw[length_map,hd];decide))⟩
  ·rintro i x ys H' hx ⟨rfl,hy,hv⟩;obtain⟨z,hz,rfl⟩:∃z,ss[i]? =some z/\V.str z=x:=by
    rw[getElem?_map]at hx;exact map_eq_some_iff.mp hx
   refine⟨_,rfl,_,rfl,.inr (.inl ⟨t,_,rfl,.inl (SqL.of ht1),rfl,rfl,_,rfl,F9 (λc=> ?_) (λc=> ?_)⟩)⟩
   ·exact⟨_,rfl,rfl,by rw[length_append];simp only[length_cons,length_nil];omega,λe=>absurd e (by simp)⟩
   ·refine⟨rfl,by omega,λe j y hj hy'=> ?_⟩;by_cases ej:j=i
    ·subst ej;rw[hz]at hy';cases hy';exact Bool.eq_false_iff.mpr c
    ·exact hv e j y (by omega) hy'
  rintro ys H' ⟨rfl,hy,hv⟩ r hr0;have s4:=A1 hr0 (.lst ys);refine⟨_,_,rfl,.inl ⟨_,SqL.of A2,rfl⟩,_,_,rfl,rfl,_,rfl,F9 (λc=>other _ s4 _ _ rfl) (λc=>⟨rfl,s4,hnd,λhm=> ?_⟩)⟩;have c':¬(0:Int)<(ys.length:Nat):=λz=>c (decide_eq_true z);have ey:ys=[]:=List.eq_nil_of_length_eq_zero (by omega);obtain⟨j,hj⟩:=mem_iff_getElem?.mp hm;have:=hv ey j _ (by rw[length_map];exact(List.getElem?_eq_some_iff.mp hj).1) hj;exact absurd this (by decide +kernel)
 rintro _ H3 ⟨rfl,s3,hnd,hm⟩;exact⟨_,rfl,q l ss _ (s01.trans s3) ⟨s3 _ _ hl1,hd,hnd,hm⟩⟩
end
noncomputable abbrev T6:Stmt:=_B.top 40
noncomputable abbrev DT:List Str:=["_law_cells","_law_spot","_law_kind_here","_law_names_here","_law_cell_here","_law_fits","_law_raw","_law_many","_law_items","_law_found","_law_item","_law_name_here","_law_known","_law_first"]
theorem sc_law_leaf:FnScope DT IW (B3 T6):=fS
noncomputable def dt:Tm->Nat
 | .nil=>0
 | .cons a r=>max (dt a) (dt r)
 | .fn _ b=>dt b+1
 | .two _ a b=>max (dt a) (dt b)+1
 | .one _ a=>dt a+1
 | .ite c a b=>max (dt c) (max (dt a) (dt b))+1
 | .let_ _ a b=>max (dt a) (dt b)+1
 | .do_ a b=>max (dt a) (dt b)+1
 | .call _ as=>dt as+2
 |_=>1
noncomputable def lc:Kd->Int
 | .num=>1
 | .tru=>1
 | .lst k=>1+2*lc k
 | .fn _ b=>1+2*lc b
theorem HS:∀k:Kd,1<=lc k
 | .num=>by decide
 | .tru=>by decide
 | .lst k=>by have:=HS k;show 1<=1+2*lc k;omega
 | .fn _ b=>by have:=HS b;show 1<=1+2*lc b;omega
theorem HN{kvs:List (Key×V)}{zs:List Str}(h:kvs.map (·.1)=zs.map Sum.inr){z:Str}(hz:z∈zs):∃v,R0 kvs (.inr z)=some v:=by
 have hm:(Sum.inr z:Key)∈kvs.map (·.1):=by rw[h];exact List.mem_map_of_mem hz
 obtain⟨p,hp,e⟩:=mem_map.mp hm;clear h;induction kvs with
 |nil=>cases hp
 |cons p0 r ih=>
  by_cases c:p0.1=Sum.inr z
  ·exact⟨_,O3 c⟩
  ·rw[O5 c];rcases cZ hp with rfl|hp
   ·exact absurd e c
   ·exact ih (mem_map.mpr ⟨p,hp,e⟩) hp
theorem adZ(x y z:V)(j:Int):∃v,atI [x,y,z] (j%3)=some v/\(v=x\/v=y\/v=z):=by
 have h1:=Int.emod_nonneg j (by decide:(3:Int)≠0);have h2:=Int.emod_lt_of_pos j (by decide:(0:Int)<3);have h:j%3=0\/j%3=1\/j%3=2:=by omega
 rcases h with h|h|h<;>rw[h]
 ·exact⟨_,rfl,.inl rfl⟩
 ·exact⟨_,rfl,.inr (.inl rfl)⟩
 ·exact⟨_,rfl,.inr (.inr rfl)⟩
theorem AY{ss:List Str}{j:Int}(h0:0<=j)(h:j<(ss.length:Nat)):∃z,atI (ss.map V.str) j=some (.str z)/\z∈ss:=by
 have h3:j.toNat<ss.length:=by omega
 have e:atI (ss.map V.str) ((j.toNat:Nat):Int)=some (.str ss[j.toNat]):=D5 (by rw[getElem?_map,List.getElem?_eq_getElem h3];rfl);rw[show((j.toNat:Nat):Int)=j by omega]at e;exact⟨_,e,getElem_mem h3⟩
theorem p12:(10:Int)^((12:Int).toNat)=1000000000000:=by decide +kernel
noncomputable def kwd:Kd->Str
 | .num=> "number"| .tru=> "truth"| .lst _=> "list"| .fn _ _=> "fn"
theorem KA.word{H:Hp}{k:Kd}{v:V}(h:KA H k v):∃p r,v=.ref p/\H p=some (.tup (.str (kwd k)::r)):=by
 cases h<;>exact⟨_,_,rfl,by assumption⟩
theorem MG{z:Str}{ks:List Nat}(hz:z.cps.toList=ks.map λk=>(sg k).cps.toList.headD 0)(hk:∀k∈ks,k<6)(h8:z.length<=sizeLine){j:Int}(h0:0<=j)(h:j<(ks.length:Nat)):∃c k,atI z.cps.toList j=some c/\k∈ks/\V.str ⟨#[c]⟩=.str (sg k):=by
 have h3:j.toNat<ks.length:=by omega
 refine⟨(sg ks[j.toNat]).cps.toList.headD 0,ks[j.toNat], ?_,getElem_mem h3, ?_⟩
 ·have e:atI (ks.map λk=>(sg k).cps.toList.headD 0) ((j.toNat:Nat):Int)=some _:=D5 (by rw[getElem?_map,List.getElem?_eq_getElem h3];rfl);rw[show((j.toNat:Nat):Int)=j by omega]at e;rw[hz];exact e
 ·have:=hk _ (getElem_mem h3)
  match ks[j.toNat],this with
  |0,_|1,_|2,_|3,_|4,_|5,_=>decide +kernel
section
variable{P:Program}{w:World}{K:FZ}{mg:Str->Option Value}{base:Heap}{f D1 F7 D3 D6 G0:Addr}{fd F1 K4 F5 J0 M3:FuncData}
inductive spLeafW(n:Nat)(vs:List V)(H:Hp)(Q:VK):Prop
 |mk:∀(c l d:Addr) (ns:List Int) (a sh ms:Int) (g:Cx) (m:Nat) (k:Kd) (kv:V),(vs=[.ref c,.ref l,kv,.ref d])->(GS H c l ns a sh ms)->(a+lc k<=2^49)->(DAt H m g d)->(m+dk k<=60)->(KA H k kv)->(dk k<=n)->(dk k<=8)->(∀(t:Tm) (v:V) (a':Int) H',Kl l H H'->H' l=some (.lst [.int a',.int sh,.int ms])->a<=a'->a'<=a+lc k->T1 H' t v->(∀F,Ty F g t (.t k))->dt t<=3*dk k->Q v H')->spLeafW n vs H Q
noncomputable def FE(n:Nat):Sp:=λvs H Q _=>spLeafW n vs H Q
theorem QD{n:Nat}(F:Fun K "_law_leaf" "_law_leaf" T6 f fd)(B:NoL mg)
  (D8:FnOk P w K mg base CX0 1 D1 F1 ES DM)(E8:Binds K F1 ES [])(E9:kZ K (.ref D1)=true)(E7:mg "_law_cell"=some (.ref D1))
  (B8:FnOk P w K mg base CX0 1 F7 K4 JG (AR K))(U0:Binds K K4 JG [])(T8:kZ K (.ref F7)=true)(T9:mg "_law_cell_at"=some (.ref F7))
  (D2:FnOk P w K mg base CX0 2 D3 F5 EL AV)(J3:Binds K F5 EL [])(J5:kZ K (.ref D3)=true)(J6:mg "_law_names"=some (.ref D3))
  (D4:FnOk P w K mg base CX0 1 D6 J0 EK CG)(K8:Binds K J0 EK [])(L1:kZ K (.ref D6)=true)(K9:mg "_law_with"=some (.ref D6))
  (M0:FnOk P w K mg base CX0 (n+3) G0 M3 IW (FE n))(L5:Binds K M3 IW [])(L0:kZ K (.ref G0)=true)(K7:mg "_law_leaf"=some (.ref G0)):
  FnOk P w K mg base CX0 (n+4) f fd IW (FE (n+1)):=by
 refine F.ok sc_law_leaf (λvs H Q E h=> ?_) (λcdv A outer s H vs Q E hr h=> ?_)
 ·obtain⟨c,l,d,ns,a,sh,ms,g,m,k,kv,rfl,_⟩:=h;rfl
 obtain⟨c,l,d,ns,a,sh,ms,g,m,k,kv,rfl,hG,hal,hD,hm,hk,hkn,hk8,q⟩:=h;have nd:=sc_law_leaf.nd;have hu:=hr.units0;refine⟨_,(A6 (sS 4 nd (C8 D8 (hr.mono (by omega)) rfl E7 E9 E8 .nil E5 (A0 (pv 0) (A0 (pv 1) A5))))
   (A6 (N2 (i:=5) nd rfl rfl (cS (N:=DT) (sc:=B3 T6) (caps:=[2,3]) (ns:=["_law_kind_here","_law_names_here"])) rfl rfl rfl (W8 (K:=K) (J7 (HD rfl) rfl B.sorted_ JL (A0 (pv 3) A5))) (λ_ _ _ _ _=>(U6 (B0 (CO (K:=K) hr.units) (LL hr.u1 (pv 2) (pv 0) (λ_ _=>rfl)) (pv 1) rfl))) (λ_ _ _ _ _=>(pv 0)))
   (A6 (D7 (B7 (PW.pt (N1 (B0 BF (kL K B.len_ (pv 5)) A3 rfl) (M7 (B0 BF (B5 C3 (pv 4) A3) A3 rfl)))) (A9 (B4 (A8 (A0 A7 (A0 (ixE K w (pv 5) (B5 C3 (B5 C0 (pv 4) A3) (kL K B.len_ (pv 5)))) A5))))) B6))
   (A6 (B7 (B0 (kEq (K:=K) hu) (ixE K w (pv 2) A3) A7 rfl) (A6 (sS 6 nd (C8 B8 (hr.mono (by omega)) rfl T9 T8 U0 .nil E5 (A0 (pv 0) (A0 (B5 C3 (B5 C0 (pv 4) A3) (B5 AC (kL K B.len_ (pv 0)) A3)) A5))))
   (A9 (B4 (A8 (A0 A7 (A0 (B5 C3 (pv 6) (ixE K w (K1 (A0 A3 (A0 A3 (A0 (B5 OL A3 A3) A5)))) (B5 C3 (B5 C0 (pv 4) A3) A3))) A5)))))) B6)
   (A6 (B7 (B0 (kEq (K:=K) hu) (ixE K w (pv 2) A3) A7 rfl) (A9 (B4 (A8 (A0 A7 (A0 (N4 (kEq (K:=K) hu) (B5 C3 (B5 C0 (pv 4) A3) A3) A3 rfl) A5))))) B6)
   (A6 (B7 (B0 (kEq (K:=K) hu) (ixE K w (pv 2) A3) A7 rfl) (A6 (sS 7 nd (B5 C3 (B5 C0 (pv 4) A3) (B5 T4 A3 (F6 P6 rfl B.int_ FY (A0 (N4 (kEq (K:=K) hu) (ixE K w (ixE K w (pv 2) A3) A3) A7 rfl) A5)))))
   (A6 (N2 (i:=8) nd rfl rfl (cS (N:=DT) (sc:=B3 T6) (caps:=[0,1,3,2]) (ns:=["_law_cells","_law_spot","_law_names_here","_law_kind_here"])) rfl rfl rfl (O6 rfl B.range_ (A0 (pv 7) A5)) (λ_ _ _ _ _=>P5) (λ_ _ _ _ _=>(C8 M0 (hr.mono (by omega)) rfl K7 L0 L5 .nil E5 (A0 (pv 1) (A0 (pv 2) (A0 (ixE K w (pv 4) A3) (A0 (pv 3) A5)))))))
   (A6 (sS 9 nd (A8 (A0 A7 A5)))
   (A6 (D7 (FI PassesOwn.never rfl (W8 (K:=K) (pv 8)) (gN 10 nd) (A9 (sS 9 nd (A8 (A0 A7 (A0 A7 (A0 (pv 10) (A0 (pv 9) A5)))))))))
   (A9 (B4 (pv 9))))))) B6)
   (A6 (sS 11 nd (ixE K w (C8 D2 (hr.mono (by omega)) rfl J6 J5 J3 .nil E5 (A0 (ixE K w (pv 1) A3) A5)) (B5 C3 (B5 C0 (pv 4) A3) A3)))
   (A6 (sS 12 nd (C8 D4 (hr.mono (by omega)) rfl K9 L1 K8 .nil E5 (A0 (pv 3) (A0 (pv 11) (A0 (ixE K w (pv 2) A3) A5)))))
   (A6 (sS 13 nd (C8 M0 (hr.mono (by omega)) rfl K7 L0 L5 .nil E5 (A0 (pv 0) (A0 (pv 1) (A0 (ixE K w (pv 2) A3) (A0 (pv 12) A5))))))
   (A6 (D7 (B7 (PW.pt (N1 (B0 (CO (K:=K) hr.units) (ixE K w (pv 2) A3) (A8 (A0 A7 A5)) rfl) (M7 (B0 BF (B5 C3 (B5 C0 (pv 4) A3) A3) A3 rfl)))) (A9 (B4 (A8 (A0 A7 (A0 (pv 11) (A0 (A8 (A0 A7 (A0 (GM ix_str A7 (B5 C3 (B5 C0 (pv 4) A3) A3) (λ_ _=>rfl)) (A0 (pv 13) (A0 (C8 M0 (hr.mono (by omega)) rfl K7 L0 L5 .nil E5 (A0 (pv 0) (A0 (pv 1) (A0 (ixE K w (pv 2) A3) (A0 (pv 12) A5))))) A5))))) A5)))))) B6))
   (A9 (B4 (A8 (A0 A7 (A0 (pv 11) (A0 (pv 13) A5)))))))))))))))), ?_⟩
 have lcp:=HS k;refine⟨_,rfl,_,rfl,c,l,ns,a,sh,ms,rfl,hG,by omega,λx H1 x0 x1 k1 hl1=> ?_⟩;have hG1:=hG.kl k1 hl1 (by omega);obtain⟨kvs,zs,hDA⟩:=hD.kl k1 hG.sp;have hk1:=hk.mono (k1.tups hG.sp);refine⟨_,rfl,d,kvs,zs,rfl,hDA.at_,hDA.keys,(by have:=hDA.len;have:=MC k;omega),λl2 zs' hl2 hpm=>⟨l2,rfl,⟨_,SqL.of A2⟩, ?_⟩⟩;have s2:=A1 hl2 (.lst (zs'.map V.str));have hl2':(upd H1 l2 (.lst (zs'.map V.str))) l2=some (.lst (zs'.map V.str)):=A2;have hD2:=s2 _ _ hDA.at_;have hv2:∀z v,R0 kvs (.inr z)=some v->∃k,g z=some k/\KA (upd H1 l2 (.lst (zs'.map V.str))) k v/\dk k<=8:=λz v hz=>let⟨q,q1,q2,q3⟩:=hDA.val z v hz;⟨q,q1,q2.mono (A4 s2),q3⟩;have hk2:=hk1.mono (A4 s2);generalize upd H1 l2 (.lst (zs'.map V.str))=H2 at s2 hl2' hD2 hv2 hk2⊢;refine X2 (xs:=zs'.map V.str) (λi ys H'=>H2=H'/\∃fs:List Str,ys=fs.map V.str/\fs.length<=i/\∀z∈fs,g z=some k) ⟨rfl,[],rfl,Nat.le_refl _,λz hz=>nomatch hz⟩ ?_ ?_ ?_
 ·rintro i ys H' hi ⟨rfl,fs,rfl,hf,_⟩;refine⟨SqL.of hl2', ?_⟩;rw[length_map]at hi⊢;have:=hpm.length_eq;have:=hDA.len;have:(64:Nat)<=sizeLine:=by decide
  omega
 ·rintro i x ys H' hx ⟨rfl,fs,rfl,hf,hfk⟩;obtain⟨z,hz,rfl⟩:∃z,zs'[i]? =some z/\V.str z=x:=by
   rw[getElem?_map]at hx;exact map_eq_some_iff.mp hx
  obtain⟨v,hv⟩:=HN hDA.keys (hpm.mem_iff.mp (mem_of_getElem? hz));obtain⟨kz,e1,e2,e3⟩:=hv2 z v hv;refine⟨_,rfl,_,rfl,d,v,rfl,by rw[<-hv];exact DGet.k (k:=.inr z) hD2,_,rfl,CD e2 hk2 (by omega) ⟨_,rfl,F9 (λc=>⟨_,rfl,rfl,fs++ [z],by rw[map_append];rfl,by rw[length_append];simp only[length_cons,length_nil];omega,λy hy=> ?_⟩) (λc=>⟨rfl,fs,rfl,by omega,hfk⟩)⟩⟩;rcases mem_append.mp hy with hy|hy
  ·exact hfk y hy
  ·rw[sZ hy,e1,of_decide_eq_true c]
 rintro ys H' ⟨rfl,fs,rfl,hfl,hfs⟩ l3 hl3;have s3:=A1 hl3 (.lst (fs.map V.str));have s23:=s2.trans s3;have k3:Kl l H _:=k1.trans (Kl.of s23);have hk3:=hk2.mono (A4 s3);have hG3:=hG1.same s23;have hD3:DAt _ m g d:=⟨kvs,zs,s3 _ _ hD2,hDA.keys,hDA.len,λz v hz=>let⟨q,q1,q2,q3⟩:=hv2 z v hz;⟨q,q1,q2.mono (A4 s3),q3⟩⟩;have hf3:(upd H2 l3 (.lst (fs.map V.str))) l3=some (.lst (fs.map V.str)):=A2;show S9 _ _ _ [some (.ref c),some (.ref l),some kv,some (.ref d),some (.int x),some (.ref l3),none,none,none,none,none,none,none,none] (upd H2 l3 (.lst (fs.map V.str)));generalize upd H2 l3 (.lst (fs.map V.str))=H3 at k3 hk3 hG3 hD3 hf3⊢;have q3:∀(t:Tm) (v:V) (a':Int) H',Kl l H3 H'->H' l=some (.lst [.int a',.int sh,.int ms])->a+1<=a'->a'<=a+lc k->T1 H' t v->(∀F,Ty F g t (.t k))->dt t<=3*dk k->Q v H':=λt v a' H' h1 h2 h3 h4 h5 h6 h7=>q t v a' H' (k3.trans h1) h2 (by omega) h4 h5 h6 h7;clear s2 s3 s23 hl2' hD2 hv2 hk2 hl2 hl3 hG1 k1 hk1 hDA;refine⟨fun σ' H'=>σ'=[some (.ref c),some (.ref l),some kv,some (.ref d),some (.int x),some (.ref l3),none,none,none,none,none,none,none,none]/\H3=H', ?_, ?_⟩
 ·refine⟨_,rfl,_,_,rfl,.inl ⟨_,SqL.of hf3,rfl⟩,_,_,rfl,rfl,_,rfl,F9 (λc1=> ?_) (λc1=>ifF nZ ⟨rfl,rfl⟩)⟩;have c1':(0:Int)<((fs.map V.str).length:Nat):=of_decide_eq_true c1;refine⟨_,rfl,_,_,rfl,rfl,(by decide:(0:Int)<4),_,_,rfl,rfl,_,rfl,F9 (λc2=> ?_) (λc2=>⟨rfl,rfl⟩)⟩;obtain⟨z,hz,hzm⟩:=AY (ss:=fs) (j:=x.fdiv 4%((fs.map V.str).length:Nat)) (Int.emod_nonneg _ (Int.ne_of_gt c1')) (by have:=Int.emod_lt_of_pos (x.fdiv 4) c1';rwa [length_map]at this⊢);refine⟨_,rfl,_,rfl,_,_,rfl,rfl,lg (by decide) (by decide),_,rfl,_,_,rfl,.inl ⟨_,SqL.of hf3,rfl⟩,_,_,rfl,rfl,c1',(ixL hf3 hz ⟨C5,λp hp=> ?_⟩)⟩;exact q3 (.name z) _ _ _ (Kl.of (A1 hp _)) ((A1 hp _) _ _ hG3.sp) (Int.le_refl _) (by omega) (.name A2) (λF=> .name (hfs z hzm)) (by show 1<=_;have:=MC k;omega)
 rintro _ _ ⟨rfl,rfl⟩;cases hk3 with
 | @num p hp=>
  refine⟨_,rfl,(ixT hp rfl (.inl ⟨rfl,_,rfl,ifT rfl ?_⟩))⟩;have hlen:(0:Int)<((ns.map V.int).length:Nat)+1:=by omega
  refine⟨_,rfl,_,rfl,_,_,rfl,rfl,lg (by decide) (by decide),_,rfl,_,_,rfl,.inl ⟨_,SqL.of hG3.cs,rfl⟩,.inl ⟨_,_,rfl,rfl,_,_,rfl,rfl,hlen,c,ns,_,rfl,SqL.of hG3.cs,Int.emod_nonneg _ (Int.ne_of_gt hlen), ?_⟩⟩;generalize E6 ns _=raw;refine⟨_,rfl,_,_,rfl,rfl,⟨by decide,by decide,by decide⟩,C7,λl4 hl4=> ?_⟩;have s4:=A1 hl4 (.lst [.int 4,.int 100,.int (10^((12:Int).toNat))]);obtain⟨b,hb,hbv⟩:=adZ (.int 4) (.int 100) (.int (10^((12:Int).toNat))) (x.fdiv 4);obtain⟨bi,rfl,hb0,hb1⟩:∃bi:Int,b=.int bi/\0<bi/\bi<=1000000000000:=by
   rcases hbv with rfl|rfl|rfl
   ·exact⟨_,rfl,by decide,by decide⟩
   ·exact⟨_,rfl,by decide,by decide⟩
   ·exact⟨_,rfl,by rw[p12];decide,by rw[p12];decide⟩
  refine⟨_,rfl,_,_,rfl,rfl,lg (by decide) (by decide),_,_,rfl,rfl,(by decide:(0:Int)<3),(ixL A2 hb ⟨_,_,rfl,rfl,hb0,C5,λp5 hp5=> ?_⟩)⟩;have g1:=Int.emod_nonneg raw (Int.ne_of_gt hb0);have g2:=Int.emod_lt_of_pos raw hb0;have s5:=s4.trans (A1 hp5 (.tup [.str "number",.int (raw%bi)]));exact q3 (.num (raw%bi)) _ _ _ (Kl.of s5) (s5 _ _ hG3.sp) (Int.le_refl _) (by omega) (.num A2) (λF=> .num (Int.le_trans (by decide: -GR<=0) g1) (Int.le_trans (Int.le_of_lt g2) (Int.le_trans hb1 (by decide)))) (by show 1<=_;decide)
 | @tru p hp=>
  refine⟨_,rfl,(ixT hp rfl (.inl ⟨rfl,_,rfl,ifF nZ ?_⟩))⟩;refine⟨_,rfl,(ixT hp rfl (.inl ⟨rfl,_,rfl,ifT rfl ?_⟩))⟩;refine⟨_,rfl,_,_,rfl,rfl,lg (by decide) (by decide),_,_,rfl,rfl,(by decide:(0:Int)<2),.inl ⟨rfl,C5,λp5 hp5=> ?_⟩⟩;have s5:=A1 hp5 (.tup [.str "truth",.bl (decide (V.int (x.fdiv 4%2)=V.int 1))]);exact q3 (.tru _) _ _ _ (Kl.of s5) (s5 _ _ hG3.sp) (Int.le_refl _) (by omega) (.tru A2) (λF=> .tru) (by show 1<=_;decide)
 | @lst k' p u hp hku=>
  refine⟨_,rfl,(ixT hp rfl (.inl ⟨rfl,_,rfl,ifF nZ ?_⟩))⟩;refine⟨_,rfl,(ixT hp rfl (.inl ⟨rfl,_,rfl,ifF nZ ?_⟩))⟩;refine⟨_,rfl,(ixT hp rfl (.inl ⟨rfl,_,rfl,ifT rfl ?_⟩))⟩;obtain⟨p',r',rfl,hp'⟩:=hku.word;have lck:lc (.lst k')=1+2*lc k':=rfl;have dkk:dk (.lst k')=dk k'+1:=rfl;have lcp':=HS k';have hat:atI (V.str (kwd k')::r') ((0:Nat):Int)=some (.str (kwd k')):=D5 rfl;have pos:(0:Int)<3 - (if decide (V.str (kwd k')=V.str "list")=true then 1 else 0):=by split<;>decide
  have le3:3 - (if decide (V.str (kwd k')=V.str "list")=true then(1:Int)else 0)<=3:=by split<;>decide
  refine⟨_,rfl,_,_,rfl,rfl,lg (by decide) (by decide),_,rfl,(ixT hp rfl (ixT hp' hat (.inl ⟨rfl,.inl ⟨_,rfl,_,_,rfl,rfl,_,_,rfl,rfl,pos, ?_⟩⟩)))⟩;have h1:=Int.emod_nonneg (x.fdiv 4) (Int.ne_of_gt pos);have h2:=Int.emod_lt_of_pos (x.fdiv 4) pos;generalize x.fdiv 4%(3 - (if decide (V.str (kwd k')=V.str "list")=true then(1:Int)else 0))=M at h1 h2⊢;obtain⟨mN,rfl,hmN⟩:∃mN:Nat,M=(mN:Int)/\mN<=2:=⟨M.toNat,by omega,by omega⟩;clear h1 h2 pos le3;refine⟨_,rfl,(mN:Int),rfl,by omega,by omega,P1 (n:=mN) (λi ys H'=>∃(a':Int) (ts:List Tm),Kl l H3 H'/\H' l=some (.lst [.int a',.int sh,.int ms])/\a+1<=a'/\a'<=a+1+(i:Int)*lc k'/\All2 (T1 H') ts ys/\(∀t∈ts,(∀F,Ty F g t (.t k'))/\dt t<=3*dk k')/\ys.length=i) ⟨a+1,[],Kl.refl _ _,hG3.sp,Int.le_refl _,by simp,.nil,(λt ht=>nomatch ht),rfl⟩ ?_ ?_ ?_⟩
  ·rintro i ys H' hi ⟨a',ts,_,_,_,_,_,_,hyl⟩;rw[hyl];exact Nat.le_trans hi (Nat.le_trans hmN (by decide))
  ·rintro i ys H' hi ⟨a',ts,kk,hl',ha1,ha2,hts,hty,hyl⟩;refine T3 ?_;have hmul:(i:Int)*lc k'<=1*lc k':=Int.mul_le_mul_of_nonneg_right (by omega) (by omega);refine⟨_,rfl,_,rfl,_,rfl,(ixT (kk.tups hG3.sp _ _ hp) rfl ⟨_,rfl,c,l,d,ns,a',sh,ms,g,m,k',.ref p',rfl,hG3.kl kk hl' ha1,by omega,hD3.kl kk hG3.sp,by omega,hku.mono (kk.tups hG3.sp),by omega,by omega,λt v a2 H4 k4 hl4 h3 h4 ht hT hdt=> ?_⟩)⟩;refine⟨a2,ts++ [t],kk.trans k4,hl4,by omega, ?_,(hts.imp λ_ _ h=>h.mono (k4.tups hl')).app (.cons ht .nil),λt' ht'=> ?_,by rw[length_append,hyl];rfl⟩
   ·rw[Int.natCast_succ,Int.add_mul,Int.one_mul];omega
   ·rcases mem_append.mp ht' with h|h
    ·exact hty t' h
    ·rw[sZ h];exact⟨hT,hdt⟩
  rintro ys H4 ⟨a',ts,kk,hl',ha1,ha2,hts,hty,hyl⟩ l5 hl5;have s5:=A1 hl5 (.lst ys);refine⟨K0,λp6 hp6=> ?_⟩;have s6:=A1 hp6 (.tup [.str "none"]);have s56:=s5.trans s6;have hy6:=s6 _ _ (show(upd H4 l5 (.lst ys)) l5=some (.lst ys)from A2);have hn6:(upd (upd H4 l5 (.lst ys)) p6 (.tup [.str "none"])) p6=some (.tup [.str "none"]):=A2;show S9 _ _ _ [some (.ref c),some (.ref l),some (.ref p),some (.ref d),some (.int x),some (.ref l3),none,some (.int (mN:Int)),some (.ref l5),some (.ref p6),none,none,none,none] (upd (upd H4 l5 (.lst ys)) p6 (.tup [.str "none"]));generalize upd (upd H4 l5 (.lst ys)) p6 (.tup [.str "none"])=H6 at s56 hy6 hn6⊢;have k6:=kk.trans (Kl.of s56);have hl6:=s56 _ _ hl';have hts6:=hts.imp λ_ _ h=>h.mono (A4 s56);have htl:=hts.len;refine⟨fun σ' H'=>∃(t:Tm) (v:V) (y:Option V),σ'=[some (.ref c),some (.ref l),some (.ref p),some (.ref d),some (.int x),some (.ref l3),none,some (.int (mN:Int)),some (.ref l5),some v,y,none,none,none]/\Same H6 H'/\T1 H' t v/\(∀F,Ty F g t (.t (.lst k')))/\dt t<=3*dk k'+3, ?_, ?_⟩
  ·refine⟨_,rfl,l5,rfl,⟨_,SqL.of hy6⟩,MJ (xs:=ys) (λi σ' H'=>∃(t:Tm) (v:V) (y:Option V),σ'=[some (.ref c),some (.ref l),some (.ref p),some (.ref d),some (.int x),some (.ref l3),none,some (.int (mN:Int)),some (.ref l5),some v,y,none,none,none]/\Same H6 H'/\T1 H' t v/\(∀F,Ty F g t (.t (.lst k')))/\dt t<=3*dk k'+1+i) ⟨.non,_,_,rfl,Same.refl _,.non hn6,λF=> .non,by show 1<=_;omega⟩ ?_ ?_ ?_⟩
   ·rintro i σ' H' hi ⟨t,v,y,rfl,sm,_⟩;exact SqL.of (sm _ _ hy6)
   ·rintro i v0 σ' H' hv0 ⟨t,v,y,rfl,sm,ht,hT,hdt⟩;obtain⟨t0,ht0,ht0v⟩:=hts6.get hv0;obtain⟨hT0,hd0⟩:=hty t0 (mem_of_getElem? ht0);refine⟨_,rfl,_,rfl,P2,λp7 hp7=> ?_⟩;have s7:=A1 hp7 (.tup [.str "two",.str ":",v0,v]);exact⟨.two ":" t0 t,_,_,rfl,sm.trans s7,.two A2 (ht0v.mono (A4 (sm.trans s7))) (ht.mono (A4 s7)),λF=> .cat (hT0 F) (hT F),by show max (dt t0) (dt t)+1<=_;omega⟩
   ·rintro σ' H' ⟨t,v,y,rfl,sm,ht,hT,hdt⟩;exact⟨t,v,y,rfl,sm,ht,hT,by omega⟩
  rintro _ H7 ⟨t,v,y,rfl,sm,ht,hT,hdt⟩;have hmul:(mN:Int)*lc k'<=2*lc k':=Int.mul_le_mul_of_nonneg_right (by omega) (by omega);exact⟨_,rfl,q3 t v a' _ (k6.trans (Kl.of sm)) (sm _ _ hl6) ha1 (by omega) ht hT (by omega)⟩
 | @fn ka kb p u u' hp hku hku'=>
  refine⟨_,rfl,(ixT hp rfl (.inl ⟨rfl,_,rfl,ifF nZ ?_⟩))⟩;refine⟨_,rfl,(ixT hp rfl (.inl ⟨rfl,_,rfl,ifF nZ ?_⟩))⟩;refine⟨_,rfl,(ixT hp rfl (.inl ⟨rfl,_,rfl,ifF nZ ?_⟩))⟩;have lck:lc (.fn ka kb)=1+2*lc kb:=rfl;have dkk:dk (.fn ka kb)=max (dk ka) (dk kb)+1:=rfl;have lcp':=HS kb;refine⟨_,rfl,(ixL hG3.sp rfl ⟨sh,rfl,λln ss H4 s4 ⟨hn1,hn2,hn3,hn4⟩=> ?_⟩)⟩;obtain⟨z,hz,hzm⟩:=AY (ss:=ss) (j:=x.fdiv 4%3) (Int.emod_nonneg _ (by decide)) (by have:=Int.emod_lt_of_pos (x.fdiv 4) (by decide:(0:Int)<3);omega);refine⟨_,rfl,_,_,rfl,rfl,lg (by decide) (by decide),_,_,rfl,rfl,(by decide:(0:Int)<3),(ixL hn1 hz ?_)⟩;refine⟨_,rfl,_,rfl,_,rfl,(ixT (s4 _ _ hp) rfl ⟨d,m,g,z,ka,u,rfl,hD3.kl (Kl.of s4) hG3.sp,by omega,hku.mono (A4 s4),by omega,λdn H5 s5 hD5=> ?_⟩)⟩;have s45:=s4.trans s5;have hG5:=hG3.same s45;have k5:Kl l H3 H5:=Kl.of s45;refine⟨_,rfl,_,rfl,_,rfl,(ixT (s45 _ _ hp) rfl ⟨_,rfl,c,l,dn,ns,a+1,sh,ms,up g z ka,m+1,kb,u',rfl,hG5,by omega,hD5,by omega,hku'.mono (A4 s45),by omega,by omega,λt v a' H6 k6 hl6 ha1 ha2 ht hT hdt=> ?_⟩)⟩;have k56:=k5.trans k6;have m6:=k56.tups hG3.sp;have hG6:=hG5.kl k6 hl6 ha1;show S9 _ _ _ [some (.ref c),some (.ref l),some (.ref p),some (.ref d),some (.int x),some (.ref l3),none,none,none,none,none,some (.str z),some (.ref dn),some v] H6;refine⟨fun σ' H'=>σ'=[some (.ref c),some (.ref l),some (.ref p),some (.ref d),some (.int x),some (.ref l3),none,none,none,none,none,some (.str z),some (.ref dn),some v]/\Same H6 H', ?_, ?_⟩
  ·refine⟨_,rfl,(ixT (m6 _ _ hp) rfl ⟨K0,λp7 hp7=> ?_⟩)⟩;have s7:=A1 hp7 (.tup [.str "number"]);refine CD ((hku'.mono m6).mono (A4 s7)) (.num A2) (by omega) ⟨_,rfl,F9 (λc1=> ?_) (λc1=>ifF nZ ⟨rfl,s7⟩)⟩;have ekb:kb=.num:=of_decide_eq_true c1;refine⟨_,rfl,_,_,rfl,rfl,lg (by decide) (by decide),_,_,rfl,rfl,(by decide:(0:Int)<3),_,_,rfl,rfl,_,rfl,F9 (λc2=> ?_) (λc2=>⟨rfl,s7⟩)⟩;obtain⟨cc,sk,hc,hsk,ecs⟩:=MG (z:="+-*-") (ks:=[0,1,2,1]) (by decide +kernel) (by decide) (by decide +kernel) (j:=x.fdiv 36%4) (Int.emod_nonneg _ (by decide)) (Int.emod_lt_of_pos _ (by decide));have hsk6:sk<3:=by revert hsk;simp;omega
   refine⟨_,rfl,_,rfl,_,_,rfl,rfl,lg (by decide) (by decide),_,_,rfl,rfl,(by decide:(0:Int)<4),"+-*-",_,cc,rfl,rfl,(by decide +kernel),hc,_,rfl, ?_⟩;have hG7:=hG6.same s7;refine⟨_,rfl,_,rfl,_,rfl,(ixT (s7 _ _ (m6 _ _ hp)) rfl ⟨_,rfl,c,l,dn,ns,a',sh,ms,up g z ka,m+1,kb,u',rfl,hG7,by omega,(hD5.kl k6 hG5.sp).kl (Kl.of s7) hG6.sp,by omega,(hku'.mono m6).mono (A4 s7),by omega,by omega,λt2 v2 a2 H8 k8 hl8 hb1 hb2 ht2 hT2 hdt2=>⟨P2,λp9 hp9=>⟨C7,λp10 hp10=> ?_⟩⟩⟩)⟩;rw[ecs]at hp10⊢;have s9:=A1 hp9 (.tup [.str "two",.str (sg sk),v,v2]);have s10:=A1 hp10 (.tup [.str "fn",.str z,.ref p9]);have s910:=s9.trans s10;have hv9:T1 _ t v:=((ht.mono (A4 s7)).mono (k8.tups hG7.sp)).mono (A4 s910);subst ekb;have ek:(if sk=3\/sk=4 then Kd.tru else Kd.num)=.num:=if_neg (by omega);refine q3 (.fn z (.two (sg sk) t t2)) _ a2 _ (k56.trans ((Kl.of s7).trans (k8.trans (Kl.of s910)))) (s910 _ _ hl8) (by omega) (by omega) (.fn A2 (.two (s10 _ _ A2) hv9 (ht2.mono (A4 s910)))) (λF=> .fn ?_) (by show max (dt t) (dt t2)+1+1<=_;omega);have:=Ty.two (F:=F) (k:=sk) (by omega) (hT F) (hT2 F);rw[ek]at this;exact this
  rintro _ H7 ⟨rfl,s7⟩;refine⟨_,rfl,_,rfl,C7,λp8 hp8=> ?_⟩;have s8:=s7.trans (A1 hp8 (.tup [.str "fn",.str z,v]));exact q3 (.fn z t) _ a' _ (k56.trans (Kl.of s8)) (s8 _ _ hl6) (by omega) (by omega) (.fn A2 (ht.mono (A4 s8))) (λF=> .fn (hT F)) (by show dt t+1<=_;omega)
end
noncomputable abbrev X7:Stmt:=_B.top 41
noncomputable abbrev AM:Stmt:=_B.top 42
noncomputable abbrev Y5:Stmt:=_B.top 43
noncomputable abbrev HF:List Str:=["_law_cells","_law_spot","_law_kinds","_law_names_here","_law_funs","_law_depth"]
theorem sc_law_some:FnScope HF NP (B3 X7):=fS
noncomputable abbrev OI:List Str:=["_law_cells","_law_spot","_law_kind_here","_law_names_here","_law_funs","_law_depth","_law_cell_here"]
theorem sc_law_good:FnScope OI W7 (B3 AM):=fS
noncomputable abbrev GJ:List Str:=["_law_cell_here","_law_names_here","_law_own_here","_law_other","_law_fits","_law_one","_law_two"]
theorem sc_law_taker:FnScope GJ q4L (B3 Y5):=fS
noncomputable def FhA(H:Hp)(x:Str×List Kd×Kd)(u:V):Prop:=∃p q us w,u=.ref p/\H p=some (.tup [.str x.1,.ref q,w])/\H q=some (.lst us)/\All2 (KA H) x.2.1 us/\KA H x.2.2 w
structure FnsAt (H:Hp) (F:Fs) (fl:Addr):Prop where
 at_:∃fus,H fl=some (.lst fus)/\All2 (FhA H) F fus
 nd:(F.map (·.1)).Nodup
 le:F.length<=100
 sm:∀x∈F,dk x.2.2<=3/\(∀k∈x.2.1,dk k<=3)/\x.2.1.length<=4
theorem LP{H:Hp}{k:Kd}{n:Int}(h:KA H k (.int n)):False:=by cases h
theorem BZ{H:Hp}{l q:Addr}{a b c:Int}{us:List V}{α:Type}{R:α->V->Prop}{xs:List α}(hl:H l=some (.lst [.int a,.int b,.int c]))(hq:H q=some (.lst us))(hu:All2 R xs us)(hR:∀x n,¬R x (.int n)):q≠l:=by
 rintro rfl;rw[hl]at hq;cases hq;cases hu with
 |cons h _=>exact hR _ _ h
theorem FhA.kl{H H':Hp}{l:Addr}{a b c:Int}(k:Kl l H H')(hl:H l=some (.lst [.int a,.int b,.int c])){x:Str×List Kd×Kd}{u:V}(h:FhA H x u):FhA H' x u:=by
 obtain⟨p,q,us,w,e,h1,h2,h3,h4⟩:=h;have m:=k.tups hl;exact⟨p,q,us,w,e,m _ _ h1,k _ _ h2 (BZ hl h2 h3 λ_ _=>LP),h3.imp λ_ _ h=>h.mono m,h4.mono m⟩
theorem FnsAt.kl{H H':Hp}{l:Addr}{a b c:Int}(k:Kl l H H')(hl:H l=some (.lst [.int a,.int b,.int c])){F:Fs}{fl:Addr}(h:FnsAt H F fl):FnsAt H' F fl:=by
 obtain⟨fus,h1,h2⟩:=h.at_;exact⟨⟨fus,k _ _ h1 (BZ hl h1 h2 λ_ _ ⟨_,_,_,_,e,_⟩=>nomatch e),h2.imp λ_ _ h=>h.kl k hl⟩,h.nd,h.le,h.sm⟩
noncomputable def gc:Nat->Int
 |0=>300
 |d+1=>5*gc d
theorem JW:∀d:Nat,300<=gc d
 |0=>by decide
 |d+1=>by have:=JW d;show 300<=5*gc d;omega
theorem VW:∀k:Kd,lc k<=2^(dk k) - 1
 | .num=>by decide
 | .tru=>by decide
 | .lst k=>by
  have:=VW k;show 1+2*lc k<=2^(dk k+1) - 1;rw[Int.pow_succ];omega
 | .fn a b=>by
  have:=VW b;show 1+2*lc b<=2^(max (dk a) (dk b)+1) - 1;have h:(2:Int)^dk b<=2^max (dk a) (dk b):=by
   have:(2:Nat)^dk b<=2^max (dk a) (dk b):=Nat.pow_le_pow_right (by decide) (le_max_right _ _)
   exact_mod_cast this
  rw[Int.pow_succ];omega
theorem dcZ{k:Kd}(h:dk k<=8):lc k<=255:=by
 have h1:=VW k;have h2:(2:Int)^dk k<=2^8:=by
  have:(2:Nat)^dk k<=2^8:=Nat.pow_le_pow_right (by decide) h
  exact_mod_cast this
 have h3:(2:Int)^8=256:=by decide
 omega
section
variable{P:Program}{w:World}{K:FZ}{mg:Str->Option Value}{base:Heap}{f D1 G0 D9 O0 N6:Addr}{fd F1 M3 G9 R9 R6:FuncData}
structure Gv(H:Hp)(c l dn fl:Addr)(ns:List Int)(a sh ms:Int)(g:Cx)(m:Nat)(F:Fs):Prop where
 s:GS H c l ns a sh ms
 n:DAt H m g dn
 f:FnsAt H F fl
theorem Gv.kl{H H':Hp}{c l dn fl:Addr}{ns:List Int}{a a' sh ms:Int}{g:Cx}{m:Nat}{F:Fs}(G:Gv H c l dn fl ns a sh ms g m F)(k:Kl l H H')(e:H' l=some (.lst [.int a',.int sh,.int ms]))(h:a<=a'):Gv H' c l dn fl ns a' sh ms g m F:=⟨G.s.kl k e h,G.n.kl k G.s.sp,G.f.kl k G.s.sp⟩
theorem Gv.same{H H':Hp}{c l dn fl:Addr}{ns:List Int}{a sh ms:Int}{g:Cx}{m:Nat}{F:Fs}(G:Gv H c l dn fl ns a sh ms g m F)(k:Same H H'):Gv H' c l dn fl ns a sh ms g m F:=G.kl (Kl.of k) (k _ _ G.s.sp) (Int.le_refl _)
noncomputable def Mk(H:Hp)(l:Addr)(a sh ms:Int)(F:Fs)(g:Cx)(k:Kd)(cost:Int)(D:Nat)(Q:VK):Prop:=
 ∀(t:Tm) (v:V) (a':Int) H',Kl l H H'->H' l=some (.lst [.int a',.int sh,.int ms])->a<=a'->a'<=a+cost->T1 H' t v->Ty F g t (.t k)->dt t<=D->Q v H'
inductive spGoodW (d:Nat) (vs:List V) (H:Hp) (Q:VK):Prop
 |mk:∀(c l dn fl:Addr) (ns:List Int) (a sh ms:Int) (g:Cx) (m:Nat) (F:Fs) (k:Kd) (kv:V) (dp:Int),(vs=[.ref c,.ref l,kv,.ref dn,.ref fl,.int dp])->(Gv H c l dn fl ns a sh ms g m F)->(a+gc d<=2^48)->(m+d<=40)->(KA H k kv)->(dk k+d<=8)->(d<=4)->(dp<=d)->(Mk H l a sh ms F g k (gc d) (24+5*d) Q)->spGoodW d vs H Q
noncomputable def AQ(d:Nat):Sp:=λvs H Q _=>spGoodW d vs H Q
inductive spCommonW (d:Nat) (vs:List V) (H:Hp) (Q:VK):Prop
 |mk:∀(c l dn fl:Addr) (ns:List Int) (a sh ms:Int) (g:Cx) (m:Nat) (F:Fs) (k:Kd) (kv:V) (dp:Int),(vs=[.ref c,.ref l,kv,.ref dn,.ref fl,.int dp])->(Gv H c l dn fl ns a sh ms g m F)->(a+4*gc d+10<=2^48)->(m+d+1<=40)->(KA H k kv)->(dk k+d+1<=8)->(d<=3)->(dp<=d)->(Mk H l a sh ms F g k (3+4*gc d) (24+5*d+5) Q)->spCommonW d vs H Q
noncomputable def NA(d:Nat):Sp:=λvs H Q _=>spCommonW d vs H Q
inductive spOwnW (d:Nat) (vs:List V) (H:Hp) (Q:VK):Prop
 |mk:∀(c l dn fl:Addr) (ns:List Int) (a sh ms:Int) (g:Cx) (m:Nat) (F:Fs) (k:Kd) (kv:V) (dp:Int),(vs=[.ref c,.ref l,kv,.ref dn,.ref fl,.int dp])->(Gv H c l dn fl ns a sh ms g m F)->(a+2*gc d+10<=2^48)->(m+d+1<=40)->(KA H k kv)->(dk k+d+1<=8)->(d<=3)->(dp<=d)->(Mk H l a sh ms F g k (2+2*gc d) (24+5*d+5) Q)->spOwnW d vs H Q
noncomputable def WF(d:Nat):Sp:=λvs H Q _=>spOwnW d vs H Q
inductive spSomeW (d:Nat) (vs:List V) (H:Hp) (Q:VK):Prop
 |mk:∀(c l dn fl kl:Addr) (ns:List Int) (a sh ms:Int) (g:Cx) (m:Nat) (F:Fs) (ks:List Kd) (us:List V) (dp:Int),(vs=[.ref c,.ref l,.ref kl,.ref dn,.ref fl,.int dp])->(Gv H c l dn fl ns a sh ms g m F)->(a+(ks.length:Int)*gc d<=2^48)->(m+d<=40)->(H kl=some (.lst us))->(All2 (KA H) ks us)->(ks.length<=4)->((∀k∈ks,dk k+d<=8))->(d<=4)->(dp<=d)->(∀(r:Addr) (ts:List Tm) (vs:List V) (a':Int) H',H r=none->Kl l H H'->H' l=some (.lst [.int a',.int sh,.int ms])->a<=a'->a'<=a+(ks.length:Int)*gc d->H' r=some (.lst vs)->All2 (T1 H') ts vs->All2 (λt k=>Ty F g t (.t k)/\dt t<=24+5*d) ts ks->Q (.ref r) H')->spSomeW d vs H Q
noncomputable def MA(d:Nat):Sp:=λvs H Q _=>spSomeW d vs H Q
theorem ok_some{d:Nat}(F:Fun K "_law_some" "_law_some" X7 f fd)
  (C4:FnOk P w K mg base CX0 (4*d+12) D9 G9 W7 (AQ d))(F2:Binds K G9 W7 [])(F4:kZ K (.ref D9)=true)(F3:mg "_law_good"=some (.ref D9)):
  FnOk P w K mg base CX0 (4*d+13) f fd NP (MA d):=by
 refine F.ok sc_law_some (λvs H Q E h=> ?_) (λcdv A outer s H vs Q E hr h=> ?_)
 ·obtain⟨c,l,dn,fl,kl,ns,a,sh,ms,g,m,F,ks,us,dp,rfl,_⟩:=h;rfl
 obtain⟨c,l,dn,fl,kl,ns,a,sh,ms,g,m,F,ks,us,dp,rfl,G,hal,hm,hkl,hks,hk4,hkd,hd4,hdp,q⟩:=h;have nd:=sc_law_some.nd;have hu:=hr.units0;have hgc:=JW d;have hne:kl≠l:=BZ G.s.sp hkl hks λ_ _=>LP;have hul:=hks.len;refine⟨_,(A9 (B4 (U2 (cS (N:=HF) (sc:=B3 X7) (caps:=[0,1,3,4,5]) (ns:=["_law_cells","_law_spot","_law_names_here","_law_funs","_law_depth"])) rfl rfl rfl (W8 (K:=K) (pv 2)) (λ_ _ _ _ _=>P5) (λ_ _ _ _ _=>(C8 C4 (hr.mono (by omega)) rfl F3 F4 F2 .nil E5 (A0 (pv 1) (A0 (pv 2) (A0 (pv 0) (A0 (pv 3) (A0 (pv 4) (A0 (pv 5) A5))))))))))), ?_⟩;refine⟨_,rfl,kl,rfl,⟨_,SqL.of hkl⟩,X2 (xs:=us) (λi ys H'=>∃(a':Int) (ts:List Tm),Kl l H H'/\H' l=some (.lst [.int a',.int sh,.int ms])/\a<=a'/\a'<=a+(i:Int)*gc d/\All2 (T1 H') ts ys/\All2 (λt k=>Ty F g t (.t k)/\dt t<=24+5*d) ts (ks.take i)/\ys.length=i) ⟨a,[],Kl.refl _ _,G.s.sp,Int.le_refl _,by simp,.nil,.nil,rfl⟩ ?_ ?_ ?_⟩
 ·rintro i ys H' hi ⟨a',ts,kk,_,_,_,_,_,hyl⟩;exact⟨SqL.of (kk _ _ hkl hne),by rw[hyl];exact Nat.le_trans hi (Nat.le_trans (by omega:us.length<=4) (by decide))⟩
 ·rintro i x ys H' hx ⟨a',ts,kk,hl',ha1,ha2,hts,hty,hyl⟩;refine T3 ?_;obtain⟨k,hk,hkx⟩:=hks.get hx;have hi:i<us.length:=(List.getElem?_eq_some_iff.mp hx).1;have hmul:((i:Int)+1)*gc d<=(ks.length:Int)*gc d:=Int.mul_le_mul_of_nonneg_right (by omega) (by omega);rw[Int.add_mul,Int.one_mul]at hmul;refine⟨_,rfl,_,rfl,_,rfl,_,rfl,_,rfl,_,rfl,c,l,dn,fl,ns,a',sh,ms,g,m,F,k,x,dp,rfl,G.kl kk hl' ha1,by omega,hm,hkx.mono (kk.tups G.s.sp),hkd k (mem_of_getElem? hk),hd4,hdp,λt v a2 H4 k4 hl4 h3 h4 ht hT hdt=> ?_⟩;refine⟨a2,ts++ [t],kk.trans k4,hl4,by omega, ?_,(hts.imp λ_ _ h=>h.mono (k4.tups hl')).app (.cons ht .nil), ?_,by rw[length_append,hyl];rfl⟩
  ·rw[Int.natCast_succ,Int.add_mul,Int.one_mul];omega
  ·rw[_B.take_one hk];exact hty.app (.cons ⟨hT,hdt⟩ .nil)
 rintro ys H4 ⟨a',ts,kk,hl',ha1,ha2,hts,hty,hyl⟩ r hr0;have s5:=A1 hr0 (.lst ys);rw[<-hul,take_of_length_le (Nat.le_refl _)]at hty;have hr1:H r=none:=by
  cases e:H r with
  |none=>rfl
  |some o=>
   by_cases c:r=l
   ·subst c;rw[hl']at hr0;cases hr0
   ·rw[kk _ _ e c]at hr0;cases hr0
 exact q r ts ys a' _ hr1 (kk.trans (Kl.of s5)) (s5 _ _ hl') ha1 (by rw[hul];exact ha2) A2 (hts.imp λ_ _ h=>h.mono (A4 s5)) hty
theorem RK{d L LC LO:Nat}{spC spO:Sp}(hL:11<=L)(hLC:LC<=L)(hLO:LO<=L)(hC:∀d',d=d'+1->∀vs H Q E,NA d' vs H Q E->spC vs H Q E)(hO:∀d',d=d'+1->∀vs H Q E,WF d' vs H Q E->spO vs H Q E)(F:Fun K "_law_good" "_law_good" AM f fd)
  (D8:FnOk P w K mg base CX0 1 D1 F1 ES DM)(E8:Binds K F1 ES [])(E9:kZ K (.ref D1)=true)(E7:mg "_law_cell"=some (.ref D1))
  (M0:FnOk P w K mg base CX0 11 G0 M3 IW (FE 8))(L5:Binds K M3 IW [])(L0:kZ K (.ref G0)=true)(K7:mg "_law_leaf"=some (.ref G0))
  (AH:FnOk P w K mg base CX0 LC O0 R9 W7 spC)(S3:Binds K R9 W7 [])(S4:kZ K (.ref O0)=true)(S0:mg "_law_common"=some (.ref O0))
  (X1:FnOk P w K mg base CX0 LO N6 R6 W7 spO)(R7:Binds K R6 W7 [])(R3:kZ K (.ref N6)=true)(R5:mg "_law_own"=some (.ref N6)):
  FnOk P w K mg base CX0 (L+1) f fd W7 (AQ d):=by
 refine F.ok sc_law_good (λvs H Q E h=> ?_) (λcdv A outer s H vs Q E hr h=> ?_)
 ·obtain⟨c,l,dn,fl,ns,a,sh,ms,g,m,F,k,kv,dp,rfl,_⟩:=h;rfl
 obtain⟨c,l,dn,fl,ns,a,sh,ms,g,m,F,k,kv,dp,rfl,G,hal,hm,hk,hkd,hd4,hdp,q⟩:=h;have nd:=sc_law_good.nd;have hu:=hr.units0;have hgc:=JW d;refine⟨_,(A6 (sS 6 nd (C8 D8 (hr.mono (by omega)) rfl E7 E9 E8 .nil E5 (A0 (pv 0) (A0 (pv 1) A5))))
   (A6 (D7 (B7 (PW.pt (IT (B0 GL (pv 5) A3 rfl) (IT (B0 (kEq (K:=K) hu) (B5 C3 (pv 6) A3) A3 rfl) (FL (B0 BF (ixE K w (pv 1) A3) (ixE K w (pv 1) A3) rfl))))) (A9 (B4 (C8 M0 (hr.mono (by omega)) rfl K7 L0 L5 .nil E5 (A0 (pv 0) (A0 (pv 1) (A0 (pv 2) (A0 (pv 3) A5))))))) B6))
   (A6 (B7 (B0 GL (B5 C3 (pv 6) A3) A3 rfl) (A9 (B4 (C8 AH (hr.mono (by omega)) rfl S0 S4 S3 .nil E5 (A0 (pv 0) (A0 (pv 1) (A0 (pv 2) (A0 (pv 3) (A0 (pv 4) (A0 (B5 T4 (pv 5) A3) A5))))))))) B6)
   (A9 (B4 (C8 X1 (hr.mono (by omega)) rfl R5 R3 R7 .nil E5 (A0 (pv 0) (A0 (pv 1) (A0 (pv 2) (A0 (pv 3) (A0 (pv 4) (A0 (B5 T4 (pv 5) A3) A5)))))))))))), ?_⟩
 refine⟨_,rfl,_,rfl,c,l,ns,a,sh,ms,rfl,G.s,by omega,λx H1 x0 x1 k1 hl1=> ?_⟩;have G1:=G.kl k1 hl1 (by omega);have hk1:=hk.mono (k1.tups G.s.sp);have hlc:=dcZ (k:=k) (by omega);have leaf:∀E':XK,FE 8 [.ref c,.ref l,kv,.ref dn] H1 Q E':=λE'=>⟨c,l,dn,ns,a+1,sh,ms,g,m,k,kv,rfl,G1.s,by omega,G1.n,by omega,hk1,by omega,by omega,λt v a' H' h1 h2 h3 h4 h5 h6 h7=>q t v a' H' (k1.trans h1) h2 (by omega) (by omega) h5 (h6 F) (by omega)⟩;refine⟨fun σ' H'=>σ'=[some (.ref c),some (.ref l),some kv,some (.ref dn),some (.ref fl),some (.int dp),some (.int x)]/\H1=H'/\1<=dp, ?_, ?_⟩
 ·refine⟨_,rfl,_,_,rfl,rfl,_,rfl,F9 (λc1=>ifT rfl ⟨_,rfl,_,rfl,_,rfl,_,rfl,leaf E⟩) (λc1=> ?_)⟩;have c1':¬dp<1:=λz=>c1 (decide_eq_true z);refine⟨_,rfl,_,_,rfl,rfl,(by decide:(0:Int)<6),.inl ⟨rfl,_,rfl,F9 (λc2=>ifT rfl ⟨_,rfl,_,rfl,_,rfl,_,rfl,leaf E⟩) (λc2=> ?_)⟩⟩;refine⟨_,rfl,(ixL hl1 rfl ⟨_,rfl,(ixL hl1 rfl ⟨_,_,rfl,rfl,_,rfl,F9 (λc3=>⟨_,rfl,_,rfl,_,rfl,_,rfl,leaf E⟩) (λc3=>⟨rfl,rfl,by omega⟩)⟩)⟩)⟩
 rintro _ _ ⟨rfl,rfl,hdp1⟩;obtain⟨d',rfl⟩:∃d',d=d'+1:=⟨d - 1,by omega⟩;have hgd:gc (d'+1)=5*gc d':=rfl;have hgc':=JW d';refine⟨_,rfl,_,_,rfl,rfl,(by decide:(0:Int)<6),_,_,rfl,rfl,_,rfl,F9 (λc1=> ?_) (λc1=> ?_)⟩
 ·exact⟨_,rfl,_,rfl,_,rfl,_,rfl,_,rfl,_,rfl,_,_,rfl,rfl,hC d' rfl _ _ _ _ ⟨c,l,dn,fl,ns,a+1,sh,ms,g,m,F,k,kv,dp - 1,rfl,G1,by omega,by omega,hk1,by omega,by omega,by omega,λt v a' H' h1 h2 h3 h4 h5 h6 h7=>q t v a' H' (k1.trans h1) h2 (by omega) (by omega) h5 h6 (by omega)⟩⟩
 ·exact⟨_,rfl,_,rfl,_,rfl,_,rfl,_,rfl,_,rfl,_,_,rfl,rfl,hO d' rfl _ _ _ _ ⟨c,l,dn,fl,ns,a+1,sh,ms,g,m,F,k,kv,dp - 1,rfl,G1,by omega,by omega,hk1,by omega,by omega,by omega,λt v a' H' h1 h2 h3 h4 h5 h6 h7=>q t v a' H' (k1.trans h1) h2 (by omega) (by omega) h5 h6 (by omega)⟩⟩
inductive spTakerW (vs:List V) (H:Hp) (Q:VK):Prop
 |mk:∀(x:Int) (dn:Addr) (m:Nat) (g:Cx) (z:Str) (ov:V),(vs=[.int x,.ref dn,.str z,ov])->(DAt H m g dn)->(m<=60)->((∀H',Same H H'->Q ov H'))->(∀(t:Tm) (v:V) H',Same H H'->T1 H' t v->(∀F,Ty F g t (.t (.fn .num .num)))->dt t<=4->Q v H')->spTakerW vs H Q
noncomputable def HA:Sp:=λvs H Q _=>spTakerW vs H Q
theorem ok_law_taker(F:Fun K "_law_taker" "_law_taker" Y5 f fd)(B:NoL mg):FnOk P w K mg base CX0 1 f fd q4L HA:=by
 refine F.ok sc_law_taker (λvs H Q E h=> ?_) (λcdv A outer s H vs Q E hr h=> ?_)
 ·obtain⟨x,dn,m,g,z,ov,rfl,_⟩:=h;rfl
 obtain⟨x,dn,m,g,z,ov,rfl,⟨kvs,zs,hDA⟩,hm,q0,q⟩:=h;have nd:=sc_law_taker.nd;have hu:=hr.units0;refine⟨_,(A6 (N2 (i:=4) nd rfl rfl (cS (N:=GJ) (sc:=B3 Y5) (caps:=[2,1]) (ns:=["_law_own_here","_law_names_here"])) rfl rfl rfl (W8 (K:=K) (J7 (HD rfl) rfl B.sorted_ JL (A0 (pv 1) A5))) (λ_ _ _ _ _=>(U6 (PW.pt (N1 (B0 (CO (K:=K) hr.units) (LL hr.u1 (pv 2) (pv 0) (λ_ _=>rfl)) (A8 (A0 A7 A5)) rfl) (M7 (B0 (kNe (K:=K) hu) (pv 0) (pv 1) rfl)))))) (λ_ _ _ _ _=>(pv 0)))
   (A6 (D7 (B7 (PW.pt (IT (B0 GL (kL K B.len_ (pv 4)) A3 rfl) (FL (B0 (kEq (K:=K) hu) (B5 C3 (pv 0) A3) A3 rfl)))) (A9 (B4 (pv 3))) B6))
   (A6 (sS 5 nd (A8 (A0 A7 (A0 (ixE K w (pv 4) (B5 C3 (B5 C0 (pv 0) A3) (kL K B.len_ (pv 4)))) A5))))
   (A6 (sS 6 nd (A8 (A0 A7 (A0 (ixE K w (pv 4) (B5 C3 (B5 AC (B5 C0 (pv 0) A3) A3) (kL K B.len_ (pv 4)))) A5))))
   (A9 (B4 (A8 (A0 A7 (A0 (pv 2) (A0 (A8 (A0 A7 (A0 A7 (A0 (A8 (A0 A7 (A0 (GM ix_str A7 (B5 C3 (B5 C0 (pv 0) A3) A3) (λ_ _=>rfl)) (A0 (A8 (A0 A7 (A0 (pv 2) A5))) (A0 (pv 5) A5))))) (A0 (pv 6) A5))))) A5)))))))))), ?_⟩
 refine⟨_,rfl,dn,kvs,zs,rfl,hDA.at_,hDA.keys,(by have:=hDA.len;omega),λl2 zs' hl2 hpm=>⟨l2,rfl,⟨_,SqL.of A2⟩, ?_⟩⟩;have s2:=A1 hl2 (.lst (zs'.map V.str));have hl2':(upd H l2 (.lst (zs'.map V.str))) l2=some (.lst (zs'.map V.str)):=A2;generalize upd H l2 (.lst (zs'.map V.str))=H2 at s2 hl2'⊢;have hzl:zs'.length<=60:=by rw[hpm.length_eq];exact Nat.le_trans hDA.len hm
 refine X2 (xs:=zs'.map V.str) (λi ys H'=>Same H2 H'/\∃fs:List Str,ys=fs.map V.str/\fs.length<=i/\∀y∈fs,g y=some .num/\y≠z) ⟨Same.refl _,[],rfl,Nat.le_refl _,λz hz=>nomatch hz⟩ ?_ ?_ ?_
 ·rintro i ys H' hi ⟨sm,fs,rfl,hf,_⟩;refine⟨SqL.of (sm _ _ hl2'), ?_⟩;rw[length_map]at hi⊢;have:(64:Nat)<=sizeLine:=by decide
  omega
 ·rintro i y0 ys H' hy0 ⟨sm,fs,rfl,hf,hfk⟩;obtain⟨y,hy,rfl⟩:∃z,zs'[i]? =some z/\V.str z=y0:=by
   rw[getElem?_map]at hy0;exact map_eq_some_iff.mp hy0
  obtain⟨v,hv⟩:=HN hDA.keys (hpm.mem_iff.mp (mem_of_getElem? hy));obtain⟨kz,e1,e2,e3⟩:=hDA.val y v hv;have s2':=s2.trans sm;refine⟨_,rfl,_,rfl,dn,v,rfl,by rw[<-hv];exact DGet.k (k:=.inr y) (s2' _ _ hDA.at_),K0,λp hp=> ?_⟩;have s3:=A1 hp (.tup [.str "number"]);refine CD ((e2.mono (A4 s2')).mono (A4 s3)) (.num A2) (by omega) ⟨_,rfl,F9 (λc1=> ?_) (λc1=>ifF nZ ⟨sm.trans s3,fs,rfl,by omega,hfk⟩)⟩;refine⟨_,rfl,_,rfl,.inl ⟨rfl,_,rfl,F9 (λc2=>⟨_,rfl,sm.trans s3,fs++ [y],by rw[map_append];rfl,by rw[length_append];simp only[length_cons,length_nil];omega,λu hu'=> ?_⟩) (λc2=>⟨sm.trans s3,fs,rfl,by omega,hfk⟩)⟩⟩;rcases mem_append.mp hu' with h|h
  ·exact hfk u h
  ·rw[sZ h];exact⟨by rw[e1,of_decide_eq_true c1],λe=>by subst e;revert c2;simp⟩
 rintro ys H3 ⟨sm,fs,rfl,hfl,hfs⟩ l3 hl3;have s3:=s2.trans (sm.trans (A1 hl3 (.lst (fs.map V.str))));have hf3:(upd H3 l3 (.lst (fs.map V.str))) l3=some (.lst (fs.map V.str)):=A2;show S9 _ _ _ [some (.int x),some (.ref dn),some (.str z),some ov,some (.ref l3),none,none] (upd H3 l3 (.lst (fs.map V.str)));generalize upd H3 l3 (.lst (fs.map V.str))=H4 at s3 hf3⊢;refine⟨fun σ' H'=>σ'=[some (.int x),some (.ref dn),some (.str z),some ov,some (.ref l3),none,none]/\H4=H'/\(0:Int)<((fs.map V.str).length:Nat), ?_, ?_⟩
 ·refine⟨_,rfl,_,_,rfl,.inl ⟨_,SqL.of hf3,rfl⟩,_,_,rfl,rfl,_,rfl,F9 (λc1=>ifT rfl ⟨_,rfl,q0 _ s3⟩) (λc1=> ?_)⟩;have c1':¬((fs.map V.str).length:Int)<2:=λz=>c1 (decide_eq_true z);exact⟨_,rfl,_,_,rfl,rfl,(by decide:(0:Int)<3),.inl ⟨rfl,_,rfl,F9 (λc2=>⟨_,rfl,q0 _ s3⟩) (λc2=>⟨rfl,rfl,by omega⟩)⟩⟩
 rintro _ _ ⟨rfl,rfl,hpos⟩;obtain⟨z1,hz1,hm1⟩:=AY (ss:=fs) (j:=x.fdiv 3%((fs.map V.str).length:Nat)) (Int.emod_nonneg _ (Int.ne_of_gt hpos)) (by have:=Int.emod_lt_of_pos (x.fdiv 3) hpos;rwa [length_map]at this⊢);obtain⟨z2,hz2,hm2⟩:=AY (ss:=fs) (j:=(x.fdiv 3+1)%((fs.map V.str).length:Nat)) (Int.emod_nonneg _ (Int.ne_of_gt hpos)) (by have:=Int.emod_lt_of_pos (x.fdiv 3+1) hpos;rwa [length_map]at this⊢);refine⟨_,rfl,_,rfl,_,_,rfl,rfl,lg (by decide) (by decide),_,rfl,_,_,rfl,.inl ⟨_,SqL.of hf3,rfl⟩,_,_,rfl,rfl,hpos,(ixL hf3 hz1 ⟨C5,λp1 hp1=> ?_⟩)⟩;have t1:=A1 hp1 (.tup [.str "name",.str z1]);refine⟨_,rfl,_,rfl,_,_,rfl,rfl,lg (by decide) (by decide),.inl ⟨_,_,rfl,rfl,_,rfl,_,_,rfl,.inl ⟨_,SqL.of (t1 _ _ hf3),rfl⟩,_,_,rfl,rfl,hpos,(ixL (t1 _ _ hf3) hz2 ⟨C5,λp2 hp2=> ?_⟩)⟩⟩;have t2:=A1 hp2 (.tup [.str "name",.str z2]);obtain⟨cc,sk,hc,hsk,ecs⟩:=MG (z:="+*") (ks:=[0,2]) (by decide +kernel) (by decide) (by decide +kernel) (j:=x.fdiv 30%2) (Int.emod_nonneg _ (by decide)) (Int.emod_lt_of_pos _ (by decide));have hsk6:sk<3:=by revert hsk;simp;omega
 refine⟨_,rfl,_,rfl,_,_,rfl,rfl,lg (by decide) (by decide),_,_,rfl,rfl,(by decide:(0:Int)<2),"+*",_,cc,rfl,rfl,(by decide +kernel),hc,_,rfl,C5,λp3 hp3=>⟨_,rfl,P2,λp4 hp4=>⟨_,rfl,P2,λp5 hp5=>⟨C7,λp6 hp6=> ?_⟩⟩⟩⟩;rw[ecs]at hp5 hp6⊢;have t3:=A1 hp3 (.tup [.str "name",.str z]);have t4:=A1 hp4 (.tup [.str "two",.str (sg sk),.ref p3,.ref p1]);have t5:=A1 hp5 (.tup [.str "two",.str "-",.ref p4,.ref p2]);have t6:=A1 hp6 (.tup [.str "fn",.str z,.ref p5]);have e6:=t5.trans t6;have e5:=t4.trans e6;have e4:=t3.trans e5;have e3:=t2.trans e4;obtain⟨g1,n1⟩:=hfs z1 hm1;obtain⟨g2,n2⟩:=hfs z2 hm2;have up1:up g z .num z1=some .num:=by unfold up;rw[if_neg (λe=>n1 e.symm)];exact g1
 have up2:up g z .num z2=some .num:=by unfold up;rw[if_neg (λe=>n2 e.symm)];exact g2
 have up0:up g z .num z=some .num:=by unfold up;rw[if_pos rfl]
 refine q (.fn z (.two "-" (.two (sg sk) (.name z) (.name z1)) (.name z2))) _ _ (s3.trans (t1.trans e3)) (.fn A2 (.two (t6 _ _ A2) (.two (e6 _ _ A2) (.name (e5 _ _ A2)) (.name (e3 _ _ A2))) (.name (e4 _ _ A2)))) (λF=> .fn ?_) (by simp[dt]);have ek:(if sk=3\/sk=4 then Kd.tru else Kd.num)=.num:=if_neg (by omega);have h1:=Ty.two (F:=F) (g:=up g z .num) (k:=sk) (by omega) (.name up0) (.name up1);rw[ek]at h1;exact Ty.two (F:=F) (k:=1) (by decide) h1 (.name up2)
end
noncomputable abbrev S8:Stmt:=_B.top 44
noncomputable abbrev EI:List Str:=["_law_cells","_law_spot","_law_kind_here","_law_names_here","_law_funs","_law_depth","_law_cell_here","_law_own_here","_law_fits","_law_parts","_law_name_here","_law_first","_law_one"]
theorem sc_law_common:FnScope EI W7 (B3 S8):=fS
noncomputable def X9:List Tm->Tm
 | []=> .nil
 |t::r=> .cons t (X9 r)
theorem LJ{H:Hp}:∀ {ts:List Tm} {vs:List V},All2 (T1 H) ts vs->TA H (X9 ts) (.inr vs)
 |_,_,.nil=> .nil
 |_,_,.cons h r=> .cons h (LJ r)
theorem NL{F:Fs}{g:Cx}{D:Nat}:∀ {ts:List Tm} {ks:List Kd},All2 (λt k=>Ty F g t (.t k)/\dt t<=D) ts ks->Ty F g (X9 ts) (.r ks)/\dt (X9 ts)<=D
 |_,_,.nil=>⟨.nil,zero_le _⟩
 |_,_,.cons h r=>⟨.cons h.1 (NL r).1,Nat.max_le.mpr ⟨h.2,(NL r).2⟩⟩
theorem GZ:∀ {F:Fs} {x:Str×List Kd×Kd},(F.map (·.1)).Nodup->x∈F->F.lookup x.1=some x.2
 |y::F,x,hn,hx=>by
  rw[map_cons,nodup_cons]at hn;rw[show(y::F)=(y.1,y.2)::F from rfl,lookup_cons];rcases cZ hx with rfl|hx
  ·simp
  ·have:(x.1==y.1)=false:=by
    simp only[beq_eq_false_iff_ne,ne_eq];intro e;exact hn.1 (e▸List.mem_map_of_mem hx)
   rw[this];exact GZ hn.2 hx
theorem FhA.same{H H':Hp}(k:Same H H'){x:Str×List Kd×Kd}{u:V}(h:FhA H x u):FhA H' x u:=by
 obtain⟨p,q,us,w,e,h1,h2,h3,h4⟩:=h;exact⟨p,q,us,w,e,k _ _ h1,k _ _ h2,h3.imp λ_ _ h=>h.mono (A4 k),h4.mono (A4 k)⟩
section
variable{P:Program}{w:World}{K:FZ}{mg:Str->Option Value}{base:Heap}{f D1 L4 L6 D3 D6 N7 D9 N6:Addr}{fd F1 N8 N9 F5 J0 R1 G9 R6:FuncData}
theorem SO{d:Nat}(F:Fun K "_law_common" "_law_common" S8 f fd)(B:NoL mg)
  (D8:FnOk P w K mg base CX0 1 D1 F1 ES DM)(E8:Binds K F1 ES [])(E9:kZ K (.ref D1)=true)(E7:mg "_law_cell"=some (.ref D1))
  (K3:FnOk P w K mg base CX0 1 L4 N8 q6L IE)(Q6:Binds K N8 q6L [])(Q8:kZ K (.ref L4)=true)(Q7:mg "_law_kind"=some (.ref L4))
  (D2:FnOk P w K mg base CX0 2 D3 F5 EL AV)(J3:Binds K F5 EL [])(J5:kZ K (.ref D3)=true)(J6:mg "_law_names"=some (.ref D3))
  (D4:FnOk P w K mg base CX0 1 D6 J0 EK CG)(K8:Binds K J0 EK [])(L1:kZ K (.ref D6)=true)(K9:mg "_law_with"=some (.ref D6))
  (M9:FnOk P w K mg base CX0 1 N7 R1 q4L HA)(Y2:Binds K R1 q4L [])(Y3:kZ K (.ref N7)=true)(Y1:mg "_law_taker"=some (.ref N7))
  (J9:FnOk P w K mg base CX0 (4*d+13) L6 N9 NP (MA d))(M4:Binds K N9 NP [])(L9:kZ K (.ref L6)=true)(M5:mg "_law_some"=some (.ref L6))
  (C4:FnOk P w K mg base CX0 (4*d+12) D9 G9 W7 (AQ d))(F2:Binds K G9 W7 [])(F4:kZ K (.ref D9)=true)(F3:mg "_law_good"=some (.ref D9))
  (X1:FnOk P w K mg base CX0 (4*d+14) N6 R6 W7 (WF d))(R7:Binds K R6 W7 [])(R3:kZ K (.ref N6)=true)(R5:mg "_law_own"=some (.ref N6)):
  FnOk P w K mg base CX0 (4*d+15) f fd W7 (NA d):=by
 refine F.ok sc_law_common (λvs H Q E h=> ?_) (λcdv A outer s H vs Q E hr h=> ?_)
 ·obtain⟨c,l,dn,fl,ns,a,sh,ms,g,m,F,k,kv,dp,rfl,_⟩:=h;rfl
 obtain⟨c,l,dn,fl,ns,a,sh,ms,g,m,F,k,kv,dp,rfl,G,hal,hm,hk,hkd,hd3,hdp,q⟩:=h;have nd:=sc_law_common.nd;have hu:=hr.units0;have hgc:=JW d;refine⟨_,(A6 (sS 6 nd (C8 D8 (hr.mono (by omega)) rfl E7 E9 E8 .nil E5 (A0 (pv 0) (A0 (pv 1) A5))))
   (A6 (sS 7 nd (C8 K3 (hr.mono (by omega)) rfl Q7 Q8 Q6 .nil E5 (A0 (B5 C0 (pv 6) A3) A5)))
   (A6 (N2 (i:=8) nd rfl rfl (cS (N:=EI) (sc:=B3 S8) (caps:=[2]) (ns:=["_law_kind_here"])) rfl rfl rfl (W8 (K:=K) (pv 4)) (λ_ _ _ _ _=>(U6 (B0 (CO (K:=K) hr.units) (ixE K w (pv 0) A3) (pv 1) rfl))) (λ_ _ _ _ _=>(pv 0)))
   (A6 (B7 (B0 (kEq (K:=K) hu) (B5 C3 (pv 6) A3) A3 rfl) (A6 (sS 9 nd (C8 J9 (hr.mono (by omega)) rfl M5 L9 M4 .nil E5 (A0 (pv 0) (A0 (pv 1) (A0 (K1 (A0 (A8 (A0 A7 A5)) (A0 (pv 2) (A0 (pv 2) A5)))) (A0 (pv 3) (A0 (pv 4) (A0 (pv 5) A5))))))))
   (A9 (B4 (A8 (A0 A7 (A0 (ixE K w (pv 9) A3) (A0 (ixE K w (pv 9) A3) (A0 (ixE K w (pv 9) A3) A5)))))))) B6)
   (A6 (B7 (B0 (kEq (K:=K) hu) (B5 C3 (pv 6) A3) A3 rfl) (A6 (sS 10 nd (ixE K w (C8 D2 (hr.mono (by omega)) rfl J6 J5 J3 .nil E5 (A0 (ixE K w (pv 1) A3) A5)) (B5 C3 (B5 C0 (pv 6) A3) A3)))
   (A6 (sS 11 nd (C8 C4 (hr.mono (by omega)) rfl F3 F4 F2 .nil E5 (A0 (pv 0) (A0 (pv 1) (A0 (pv 7) (A0 (pv 3) (A0 (pv 4) (A0 (pv 5) A5))))))))
   (A9 (B4 (A8 (A0 A7 (A0 (pv 10) (A0 (pv 11) (A0 (C8 C4 (hr.mono (by omega)) rfl F3 F4 F2 .nil E5 (A0 (pv 0) (A0 (pv 1) (A0 (pv 2) (A0 (C8 D4 (hr.mono (by omega)) rfl K9 L1 K8 .nil E5 (A0 (pv 3) (A0 (pv 10) (A0 (pv 7) A5)))) (A0 (pv 4) (A0 (pv 5) A5))))))) A5))))))))) B6)
   (A6 (B7 (B0 (kEq (K:=K) hu) (B5 C3 (pv 6) A3) A3 rfl) (A6 (sS 9 nd (C8 J9 (hr.mono (by omega)) rfl M5 L9 M4 .nil E5 (A0 (pv 0) (A0 (pv 1) (A0 (K1 (A0 (A8 (A0 A7 (A0 (pv 7) (A0 (pv 2) A5)))) (A0 (pv 7) A5))) (A0 (pv 3) (A0 (pv 4) (A0 (pv 5) A5))))))))
   (A6 (D7 (B7 (NJ (CO (K:=K) hr.units) (CO (K:=K) hr.units) (pv 7) (pv 2) (A8 (A0 A7 A5))) (A9 (Z7 (C8 M9 (hr.mono (by omega)) rfl Y1 Y3 Y2 .nil E5 (A0 (B5 C0 (pv 6) A3) (A0 (pv 3) (A0 (ixE K w (C8 D2 (hr.mono (by omega)) rfl J6 J5 J3 .nil E5 (A0 (ixE K w (pv 1) A3) A5)) A3) (A0 (ixE K w (pv 9) A3) A5))))) (DU (pv 9) A3 AF))) B6))
   (A9 (B4 (A8 (A0 A7 (A0 (ixE K w (pv 9) A3) (A0 (ixE K w (pv 9) A3) A5)))))))) B6)
   (A6 (D7 (B7 (PW.pt (N1 (B0 (kEq (K:=K) hu) (B5 C3 (pv 6) A3) A3 rfl) (M7 (B0 (kEq (K:=K) hu) (B5 C3 (B5 C0 (pv 6) A3) A3) A3 rfl)))) (A9 (B4 (A8 (A0 A7 (A0 A7 (A0 (C8 C4 (hr.mono (by omega)) rfl F3 F4 F2 .nil E5 (A0 (pv 0) (A0 (pv 1) (A0 (A8 (A0 A7 (A0 (pv 2) A5))) (A0 (pv 3) (A0 (pv 4) (A0 (pv 5) A5))))))) A5)))))) B6))
   (A6 (B7 (B0 (kEq (K:=K) hu) (kL K B.len_ (pv 8)) A3 rfl) (A9 (B4 (C8 X1 (hr.mono (by omega)) rfl R5 R3 R7 .nil E5 (A0 (pv 0) (A0 (pv 1) (A0 (pv 2) (A0 (pv 3) (A0 (pv 4) (A0 (pv 5) A5))))))))) B6)
   (A6 (sS 12 nd (ixE K w (pv 8) (B5 C3 (B5 C0 (pv 6) A3) (kL K B.len_ (pv 8)))))
   (A9 (B4 (A8 (A0 A7 (A0 (ixE K w (pv 12) A3) (A0 (F6 (AT (K:=K)) rfl B.tuple_ M6 (A0 (C8 J9 (hr.mono (by omega)) rfl M5 L9 M4 .nil E5 (A0 (pv 0) (A0 (pv 1) (A0 (ixE K w (pv 12) A3) (A0 (pv 3) (A0 (pv 4) (A0 (pv 5) A5))))))) A5)) A5))))))))))))))), ?_⟩
 refine stp λNx eN=> ?_;refine⟨_,rfl,_,rfl,c,l,ns,a,sh,ms,rfl,G.s,by omega,λx H1 x0 x1 k1 hl1=> ?_⟩;have G1:=G.kl k1 hl1 (by omega);have hk1:=hk.mono (k1.tups G.s.sp);show Nx _ _;subst eN;refine stp λNx eN=> ?_;refine⟨_,rfl,_,_,rfl,rfl,lg (by decide) (by decide),_,rfl,λko ov H2 s2 hko hdo=> ?_⟩;have G2:=G1.same s2;have hk2:=hk1.mono (A4 s2);obtain⟨fus,hfl,hfus⟩:=G2.f.at_;have hFl:=G2.f.le;have hful:=hfus.len;show Nx _ _;subst eN;refine stp λNx eN=> ?_;refine⟨_,rfl,fl,rfl,⟨_,SqL.of hfl⟩,X2 (xs:=fus) (λi ys H'=>H2=H'/\∃fs:Fs,All2 (FhA H2) fs ys/\fs.length<=i/\∀e∈fs,e∈F/\e.2.2=k) ⟨rfl,[],.nil,Nat.le_refl _,λe he=>nomatch he⟩ ?_ ?_ ?_⟩
 ·rintro i ys H' hi ⟨rfl,fs,hfs,hf,_⟩;refine⟨SqL.of hfl, ?_⟩;have:(100:Nat)<=sizeLine:=by decide
  rw[<-hfs.len];omega
 ·rintro i u ys H' hu' ⟨rfl,fs,hfs,hf,hfk⟩;obtain⟨e,he,hfe⟩:=hfus.get hu';obtain⟨p,q1,us,w1,rfl,hp,hq1,hus,hw⟩:=hfe;refine⟨_,rfl,(ixT hp rfl ⟨_,rfl,CD hw hk2 (by have:=(G2.f.sm e (mem_of_getElem? he)).1;omega) ⟨_,rfl,F9 (λc1=>⟨_,rfl,rfl,fs++ [e],hfs.app (.cons ⟨p,q1,us,w1,rfl,hp,hq1,hus,hw⟩ .nil),by rw[length_append];simp only[length_cons,length_nil];omega,λy hy=> ?_⟩) (λc1=>⟨rfl,fs,hfs,by omega,hfk⟩)⟩⟩)⟩;rcases mem_append.mp hy with hy|hy
  ·exact hfk y hy
  ·rw[sZ hy];exact⟨mem_of_getElem? he,of_decide_eq_true c1⟩
 rintro fys H' ⟨rfl,fs,hfs,hfsl,hfk⟩ l3 hl3;have s3:=A1 hl3 (.lst fys);have k3:Kl l H _:=k1.trans (Kl.of (s2.trans s3));have G3:=G2.same s3;have hk3:=hk2.mono (A4 s3);have hko3:=hko.mono (A4 s3);have hfs3:=hfs.imp λ_ _ h=>h.same s3;have hf3:(upd H2 l3 (.lst fys)) l3=some (.lst fys):=A2;show Nx _ _;subst eN;show S9 _ _ _ [some (.ref c),some (.ref l),some kv,some (.ref dn),some (.ref fl),some (.int dp),some (.int x),some ov,some (.ref l3),none,none,none,none] (upd H2 l3 (.lst fys));generalize upd H2 l3 (.lst fys)=H3 at k3 G3 hk3 hko3 hfs3 hf3⊢;have q3:Mk H3 l (a+1) sh ms F g k (2+4*gc d) (24+5*d+5) Q:=λt v a' H' h1 h2 h3 h4 h5 h6 h7=>q t v a' H' (k3.trans h1) h2 (by omega) (by omega) h5 h6 h7;clear hfs hfus hfl s2 s3 hko hk1 hk2 G1 hl1 hl3 hful;have m0:m+d<=40:=by omega
 refine stp λNx eN=> ?_;refine⟨_,rfl,_,_,rfl,rfl,(by decide:(0:Int)<5),.inl ⟨rfl,_,rfl,F9 (λc0=> ?_) (λc0=> ?_)⟩⟩
 ·refine stp λNy eY=> ?_;refine⟨_,rfl,_,rfl,K0,λp1 hp1=>⟨_,rfl,_,rfl,C7,λl4 hl4=> ?_⟩⟩;have t1:=A1 hp1 (.tup [.str "truth"]);have t2:=A1 hl4 (.lst [.ref p1,kv,kv]);have t12:=t1.trans t2;have hk4:=hk3.mono (A4 t12);refine⟨_,rfl,_,rfl,_,rfl,c,l,dn,fl,l4,ns,a+1,sh,ms,g,m,F,[.tru,k,k],_,dp,rfl,G3.same t12,(by show a+1+3*gc d<=_;omega),m0,A2,.cons (.tru (t2 _ _ A2)) (.cons hk4 (.cons hk4 .nil)),(by show 3<=4;decide),(λk' hk'=> ?_),by omega,hdp,λr ts vs a' H6 hr0 k6 hl6 h1 h2 hr hts hty=> ?_⟩
  ·rcases cZ hk' with rfl|hk'
   ·show 1+d<=8;omega
   ·rcases cZ hk' with rfl|hk'
    ·omega
    ·rw[sZ hk'];omega
  have h2:a'<=a+1+3*gc d:=h2;cases hty with
  | @cons t0 _ _ _ y0 hty=>
  cases hty with
  | @cons t1' _ _ _ y1 hty=>
  cases hty with
  | @cons t2' _ _ _ y2 hty=>
  cases hty;cases hts with
  | @cons _ v0 _ _ z0 hts=>
  cases hts with
  | @cons _ v1 _ _ z1 hts=>
  cases hts with
  | @cons _ v2 _ _ z2 hts=>
  cases hts;show Ny _ _;subst eY;refine⟨_,rfl,(ixL hr rfl ⟨_,rfl,(ixL hr rfl ⟨_,rfl,(ixL hr rfl ⟨P2,λp7 hp7=> ?_⟩)⟩)⟩)⟩;have t7:=A1 hp7 (.tup [.str "if",v0,v1,v2]);exact q3 (.ite t0 t1' t2') _ a' _ ((Kl.of t12).trans (k6.trans (Kl.of t7))) (t7 _ _ hl6) h1 (by omega) (.ite A2 (z0.mono (A4 t7)) (z1.mono (A4 t7)) (z2.mono (A4 t7))) (.ite y0.1 y1.1 y2.1) (by show max (dt t0) (max (dt t1') (dt t2'))+1<=_;have:=y0.2;have:=y1.2;have:=y2.2;omega)
 show Nx _ _;subst eN;refine stp λNx eN=> ?_;refine⟨_,rfl,_,_,rfl,rfl,(by decide:(0:Int)<5),.inl ⟨rfl,_,rfl,F9 (λc1=> ?_) (λc1=> ?_)⟩⟩
 ·refine stp λNy eY=> ?_;refine⟨_,rfl,(ixL G3.s.sp rfl ⟨sh,rfl,λln ss H4 s4 ⟨hn1,hn2,hn3,hn4⟩=> ?_⟩)⟩;obtain⟨z,hz,hzm⟩:=AY (ss:=ss) (j:=x.fdiv 40%3) (Int.emod_nonneg _ (by decide)) (by have:=Int.emod_lt_of_pos (x.fdiv 40) (by decide:(0:Int)<3);omega);refine⟨_,rfl,_,_,rfl,rfl,lg (by decide) (by decide),_,_,rfl,rfl,(by decide:(0:Int)<3),(ixL hn1 hz ?_)⟩;have G4:=G3.same s4;have hko4:=hko3.mono (A4 s4);show Ny _ _;subst eY;refine⟨_,rfl,_,rfl,_,rfl,_,rfl,_,rfl,_,rfl,c,l,dn,fl,ns,a+1,sh,ms,g,m,F,ko,ov,dp,rfl,G4,by omega,m0,hko4,by omega,by omega,hdp,λt v a' H5 k5 hl5 h1 h2 ht hT hdt=> ?_⟩;have G5:=G4.kl k5 hl5 h1;have m5:=k5.tups G4.s.sp;refine⟨_,rfl,_,rfl,_,rfl,_,rfl,_,rfl,_,rfl,_,rfl,_,rfl,dn,m,g,z,ko,ov,rfl,G5.n,by omega,hko4.mono m5,by omega,λdn2 H6 s6 hD6=> ?_⟩;have G6:=G5.same s6;refine⟨_,rfl,_,rfl,c,l,dn2,fl,ns,a',sh,ms,up g z ko,m+1,F,k,kv,dp,rfl,⟨G6.s,hD6,G6.f⟩,by omega,by omega,((hk3.mono (A4 s4)).mono m5).mono (A4 s6),by omega,by omega,hdp,λt' v' a2 H7 k7 hl7 h3 h4 ht' hT' hdt'=>⟨P2,λp8 hp8=> ?_⟩⟩;have t8:=A1 hp8 (.tup [.str "let",.str z,v,v']);exact q3 (.let_ z t t') _ a2 _ ((Kl.of s4).trans (k5.trans ((Kl.of s6).trans (k7.trans (Kl.of t8))))) (t8 _ _ hl7) (by omega) (by omega) (.let_ A2 (((ht.mono (A4 s6)).mono (k7.tups G6.s.sp)).mono (A4 t8)) (ht'.mono (A4 t8))) (.let_ hT hT') (by show max (dt t) (dt t')+1<=_;omega)
 show Nx _ _;subst eN;refine stp λNx eN=> ?_;refine⟨_,rfl,_,_,rfl,rfl,(by decide:(0:Int)<5),.inl ⟨rfl,_,rfl,F9 (λc2=> ?_) (λc2=> ?_)⟩⟩
 ·refine stp λNy eY=> ?_;refine⟨_,rfl,_,rfl,_,rfl,_,rfl,C7,λp1 hp1=>⟨_,rfl,C5,λl4 hl4=> ?_⟩⟩;have t1:=A1 hp1 (.tup [.str "fn",ov,kv]);have t2:=A1 hl4 (.lst [.ref p1,ov]);have t12:=t1.trans t2;have hk4:=hk3.mono (A4 t12);have hko4:=hko3.mono (A4 t12);refine⟨_,rfl,_,rfl,_,rfl,c,l,dn,fl,l4,ns,a+1,sh,ms,g,m,F,[.fn ko k,ko],_,dp,rfl,G3.same t12,(by show a+1+2*gc d<=_;omega),m0,A2,.cons (.fn (t2 _ _ A2) hko4 hk4) (.cons hko4 .nil),(by show 2<=4;decide),(λk' hk'=> ?_),by omega,hdp,λr ts vs a' H6 hr0 k6 hl6 h1 h2 hr hts hty=> ?_⟩
  ·rcases cZ hk' with rfl|hk'
   ·show max (dk ko) (dk k)+1+d<=8;omega
   ·rw[sZ hk'];omega
  have h2:a'<=a+1+2*gc d:=h2;cases hty with
  | @cons t0 _ _ _ y0 hty=>
  cases hty with
  | @cons t1' _ _ _ y1 hty=>
  cases hty;cases hts with
  | @cons _ v0 _ _ z0 hts=>
  cases hts with
  | @cons _ v1 _ _ z1 hts=>
  cases hts;have k36:=(Kl.of t12).trans k6;have m6:=k36.tups G3.s.sp;have G6:=G3.kl k36 hl6 h1;have hrl:r≠l:=λe=>by rw[e,t12 _ _ G3.s.sp]at hr0;cases hr0
  show Ny _ _;subst eY;show S9 _ _ _ [some (.ref c),some (.ref l),some kv,some (.ref dn),some (.ref fl),some (.int dp),some (.int x),some ov,some (.ref l3),some (.ref r),none,none,none] H6;refine stp λNy eY=> ?_;refine⟨fun σ' H'=>σ'=[some (.ref c),some (.ref l),some kv,some (.ref dn),some (.ref fl),some (.int dp),some (.int x),some ov,some (.ref l3),some (.ref r),none,none,none]/\∃(t:Tm) (v:V),Kl l H3 H'/\Mo H6 H'/\H' l=some (.lst [.int a',.int sh,.int ms])/\H' r=some (.lst [v,v1])/\T1 H' t v/\Ty F g t (.t (.fn ko k))/\dt t<=24+5*d, ?_, ?_⟩
  ·refine⟨_,rfl,_,rfl,CD (hko3.mono m6) (hk3.mono m6) (by omega) ⟨_,rfl,F9 (λe1=>⟨K0,λp7 hp7=> ?_⟩) (λe1=>⟨_,rfl,ifF nZ ⟨rfl,t0,v0,k36,λ_ _ h=>h,hl6,hr,z0,y0.1,y0.2⟩⟩)⟩⟩;have t7:=A1 hp7 (.tup [.str "number"]);refine CD ((hk3.mono m6).mono (A4 t7)) (.num A2) (by omega) ⟨_,rfl,F9 (λe2=> ?_) (λe2=>⟨rfl,t0,v0,k36.trans (Kl.of t7),A4 t7,t7 _ _ hl6,t7 _ _ hr,z0.mono (A4 t7),y0.1,y0.2⟩)⟩;have ek:k=.num:=of_decide_eq_true e2;have eko:ko=.num:=(of_decide_eq_true e1).trans ek;have G7:=G6.same t7;refine⟨_,rfl,_,_,rfl,rfl,lg (by decide) (by decide),_,rfl,_,rfl,(ixL G7.s.sp rfl ⟨sh,rfl,λln ss H8 s8 ⟨hn1,hn2,hn3,hn4⟩=> ?_⟩)⟩;obtain⟨z,hz,hzm⟩:=AY (ss:=ss) (j:=0) (by decide) (by omega);have G8:=G7.same s8;have t78:=t7.trans s8;have hr8:=t78 _ _ hr;refine(ixL hn1 hz ⟨_,rfl,(ixL hr8 rfl ⟨x.fdiv 5,dn,m,g,z,v0,rfl,G8.n,by omega,λH9 s9=> ?_,λt v H9 s9 ht hT hdt=> ?_⟩)⟩)
   ·have t79:=t78.trans s9;refine⟨_,rfl,r,_,0,0,rfl,rfl,s9 _ _ hr8,rfl, ?_⟩;have e9:upd H9 r (.lst ([v0,v1].set 0 v0))=H9:=_B.upd_id (s9 _ _ hr8);rw[e9];exact⟨rfl,t0,v0,k36.trans (Kl.of t79),A4 t79,t79 _ _ hl6,t79 _ _ hr,z0.mono (A4 t79),y0.1,y0.2⟩
   ·have t79:=t78.trans s9;refine⟨_,rfl,r,_,0,0,rfl,rfl,s9 _ _ hr8,rfl, ?_⟩;have mr:Mo H9 (upd H9 r (.lst [v,v1])):=λb xs e=>by rw[B9 (BL e (s9 _ _ hr8) (by intro z;cases z))];exact e
    have kr:Kl l H3 (upd H9 r (.lst [v,v1])):=λb o e n=>by
     have nb:b≠r:=λeb=>by
      rw[eb]at e;rw[t12 _ _ e]at hr0;cases hr0
     rw[B9 nb];exact(k36.trans (Kl.of t79)) b o e n
    subst ek;subst eko;exact⟨rfl,t,v,kr,λb xs e=>mr _ _ (t79 _ _ e),by rw[B9 (Ne.symm hrl)];exact t79 _ _ hl6,A2,ht.mono mr,hT F,by omega⟩
  rintro _ H7 ⟨rfl,t,v,k7,m7,hl7,hr7,ht,hT,hdt⟩;show Ny _ _;subst eY;refine⟨_,rfl,(ixL hr7 rfl ⟨_,rfl,(ixL hr7 rfl ⟨C7,λp8 hp8=> ?_⟩)⟩)⟩;have t8:=A1 hp8 (.tup [.str "do",v,v1]);exact q3 (.do_ t t1') _ a' _ (k7.trans (Kl.of t8)) (t8 _ _ hl7) h1 (by omega) (.do_ A2 (ht.mono (A4 t8)) ((z1.mono m7).mono (A4 t8))) (.do_ hT y1.1) (by show max (dt t) (dt t1')+1<=_;have:=y1.2;omega)
 show Nx _ _;subst eN;refine stp λNx eN=> ?_;refine⟨fun σ' H'=>σ'=[some (.ref c),some (.ref l),some kv,some (.ref dn),some (.ref fl),some (.int dp),some (.int x),some ov,some (.ref l3),none,none,none,none]/\H3=H', ?_, ?_⟩
 ·refine⟨_,rfl,_,_,rfl,rfl,(by decide:(0:Int)<5),.inl ⟨rfl,_,rfl,F9 (λc3=> ?_) (λc3=>ifF nZ ⟨rfl,rfl⟩)⟩⟩;refine⟨_,rfl,_,_,rfl,rfl,lg (by decide) (by decide),_,_,rfl,rfl,(by decide:(0:Int)<3),.inl ⟨rfl,_,rfl,F9 (λc4=> ?_) (λc4=>⟨rfl,rfl⟩)⟩⟩;refine⟨_,rfl,_,rfl,_,rfl,C5,λp1 hp1=> ?_⟩;have t1:=A1 hp1 (.tup [.str "list",kv]);refine⟨_,rfl,_,rfl,_,rfl,c,l,dn,fl,ns,a+1,sh,ms,g,m,F,.lst k,.ref p1,dp,rfl,G3.same t1,by omega,m0,.lst A2 (hk3.mono (A4 t1)),(by show dk k+1+d<=8;omega),by omega,hdp,λt v a' H5 k5 hl5 h1 h2 ht hT hdt=>⟨C7,λp2 hp2=> ?_⟩⟩;have t2:=A1 hp2 (.tup [.str "one",.str "head",v]);exact q3 (.one "head" t) _ a' _ ((Kl.of t1).trans (k5.trans (Kl.of t2))) (t2 _ _ hl5) h1 (by omega) (.one A2 (ht.mono (A4 t2))) (.head hT) (by show dt t+1<=_;omega)
 rintro _ _ ⟨rfl,rfl⟩;show Nx _ _;subst eN;refine stp λNx eN=> ?_;refine⟨_,rfl,_,_,rfl,.inl ⟨_,SqL.of hf3,rfl⟩,.inl ⟨rfl,_,rfl,F9 (λc4=> ?_) (λc4=> ?_)⟩⟩
 ·exact⟨_,rfl,_,rfl,_,rfl,_,rfl,_,rfl,_,rfl,c,l,dn,fl,ns,a+1,sh,ms,g,m,F,k,kv,dp,rfl,G3,by omega,hm,hk3,hkd,hd3,hdp,λt v a' H' h1 h2 h3 h4 h5 h6 h7=>q3 t v a' H' h1 h2 h3 (by omega) h5 h6 h7⟩
 have c4':(0:Int)<(fys.length:Nat):=by
  have:¬((fys.length:Nat):Int)=0:=λz=>c4 (decide_eq_true (congrArg V.int z));omega
 have g1:=Int.emod_nonneg (x.fdiv 15) (Int.ne_of_gt c4');have g2:=Int.emod_lt_of_pos (x.fdiv 15) c4';obtain⟨u,hu1,hu2⟩:∃u,atI fys (x.fdiv 15%(fys.length:Nat))=some u/\fys[(x.fdiv 15%(fys.length:Nat)).toNat]? =some u:=by
  have h3:(x.fdiv 15%(fys.length:Nat)).toNat<fys.length:=by omega
  have e:atI fys (((x.fdiv 15%(fys.length:Nat)).toNat:Nat):Int)=some _:=D5 (List.getElem?_eq_getElem h3);rw[show(((x.fdiv 15%(fys.length:Nat)).toNat:Nat):Int)=x.fdiv 15%(fys.length:Nat) by omega]at e;exact⟨_,e,List.getElem?_eq_getElem h3⟩
 obtain⟨e,he,hfe⟩:=hfs3.get hu2;obtain⟨heF,hek⟩:=hfk e (mem_of_getElem? he);obtain⟨b1,b2,b3⟩:=G3.f.sm e heF;obtain⟨p,q1,us,w1,rfl,hp,hq1,hus,hw⟩:=hfe;have hul:=hus.len;show Nx _ _;subst eN;refine stp λNx eN=> ?_;refine⟨_,rfl,_,rfl,_,_,rfl,rfl,lg (by decide) (by decide),_,rfl,_,_,rfl,.inl ⟨_,SqL.of hf3,rfl⟩,_,_,rfl,rfl,c4',(ixL hf3 hu1 ?_)⟩;have hlen:(e.2.1.length:Int)*gc d<=4*gc d:=Int.mul_le_mul_of_nonneg_right (by omega) (by omega);show Nx _ _;subst eN;refine⟨_,rfl,(ixT hp rfl ⟨_,rfl,_,rfl,_,rfl,(ixT hp rfl ⟨_,rfl,_,rfl,_,rfl,c,l,dn,fl,q1,ns,a+1,sh,ms,g,m,F,e.2.1,us,dp,rfl,G3,by omega,m0,hq1,hus,b3,λk' hk'=>by have:=b2 k' hk';omega,by omega,hdp,λr ts vs a' H6 hr0 k6 hl6 h1 h2 hr hts hty=> ?_⟩)⟩)⟩;refine⟨r,_,rfl,.inl ⟨SqL.of hr,λp7 hp7=>⟨C7,λp8 hp8=> ?_⟩⟩⟩;have t7:=A1 hp7 (.tup vs);have t8:=A1 hp8 (.tup [.str "call",.str e.1,.ref p7]);have t78:=t7.trans t8;obtain⟨r1,r2⟩:=NL hty;have hlk:F.lookup e.1=some (e.2.1,k):=by rw[GZ G3.f.nd heF,<-hek]
 exact q3 (.call e.1 (X9 ts)) _ a' _ (k6.trans (Kl.of t78)) (t78 _ _ hl6) h1 (by omega) (.call A2 (t8 _ _ A2) (LJ (hts.imp λ_ _ h=>h.mono (A4 t78)))) (.call hlk r1) (by show dt (X9 ts)+2<=_;omega)
end
noncomputable abbrev AG:Stmt:=_B.top 45
noncomputable abbrev KB:List Str:=["_law_cells","_law_spot","_law_kind_here","_law_names_here","_law_funs","_law_depth","_law_cell_here","_law_number","_law_test","_law_parts","_law_name_here"]
theorem sc_law_own:FnScope KB W7 (B3 AG):=fS
theorem IS{F:Fs}{g:Cx}{k:Nat}{a b:Tm}(hk:k<6)(h3:k≠3)(h4:k≠4)(ha:Ty F g a (.t .num))(hb:Ty F g b (.t .num)):Ty F g (.two (sg k) a b) (.t .num):=by
 have h:=Ty.two (F:=F) (k:=k) hk ha hb
 rwa [if_neg (by omega)]at h
theorem XM{F:Fs}{g:Cx}{k:Nat}{a b:Tm}(h3:k=3\/k=4)(ha:Ty F g a (.t .num))(hb:Ty F g b (.t .num)):Ty F g (.two (sg k) a b) (.t .tru):=by
 have h:=Ty.two (F:=F) (k:=k) (by omega) ha hb
 rwa [if_pos h3]at h
theorem QQ{α β:Type}{R:α->β->Prop}{xs:List α}{ys:List β}(h:All2 R xs ys)(hl:ys.length=3):∃a b c x y z,xs=[a,b,c]/\ys=[x,y,z]/\R a x/\R b y/\R c z:=by
 cases h with
 |nil=>cases hl
 |cons h1 h=>
 cases h with
 |nil=>cases hl
 |cons h2 h=>
 cases h with
 |nil=>cases hl
 |cons h3 h=>
 cases h with
 |nil=>exact⟨_,_,_,_,_,_,rfl,rfl,h1,h2,h3⟩
 |cons _ _=>simp at hl
section
variable{P:Program}{w:World}{K:FZ}{mg:Str->Option Value}{base:Heap}{f D1 L4 L6 D3 D6 D9:Addr}{fd F1 N8 N9 F5 J0 G9:FuncData}
theorem bDZ{d:Nat}(F:Fun K "_law_own" "_law_own" AG f fd)(B:NoL mg)
  (D8:FnOk P w K mg base CX0 1 D1 F1 ES DM)(E8:Binds K F1 ES [])(E9:kZ K (.ref D1)=true)(E7:mg "_law_cell"=some (.ref D1))
  (K3:FnOk P w K mg base CX0 1 L4 N8 q6L IE)(Q6:Binds K N8 q6L [])(Q8:kZ K (.ref L4)=true)(Q7:mg "_law_kind"=some (.ref L4))
  (D2:FnOk P w K mg base CX0 2 D3 F5 EL AV)(J3:Binds K F5 EL [])(J5:kZ K (.ref D3)=true)(J6:mg "_law_names"=some (.ref D3))
  (D4:FnOk P w K mg base CX0 1 D6 J0 EK CG)(K8:Binds K J0 EK [])(L1:kZ K (.ref D6)=true)(K9:mg "_law_with"=some (.ref D6))
  (J9:FnOk P w K mg base CX0 (4*d+13) L6 N9 NP (MA d))(M4:Binds K N9 NP [])(L9:kZ K (.ref L6)=true)(M5:mg "_law_some"=some (.ref L6))
  (C4:FnOk P w K mg base CX0 (4*d+12) D9 G9 W7 (AQ d))(F2:Binds K G9 W7 [])(F4:kZ K (.ref D9)=true)(F3:mg "_law_good"=some (.ref D9)):
  FnOk P w K mg base CX0 (4*d+14) f fd W7 (WF d):=by
 refine F.ok sc_law_own (λvs H Q E h=> ?_) (λcdv A outer s H vs Q E hr h=> ?_)
 ·obtain⟨c,l,dn,fl,ns,a,sh,ms,g,m,F,k,kv,dp,rfl,_⟩:=h;rfl
 obtain⟨c,l,dn,fl,ns,a,sh,ms,g,m,F,k,kv,dp,rfl,G,hal,hm,hk,hkd,hd3,hdp,q⟩:=h;have nd:=sc_law_own.nd;have hu:=hr.units0;have hgc:=JW d;have m0:m+d<=40:=by omega
 refine⟨_,(A6 (BS (i:=6) nd rfl (Or.inr rfl) (C8 D8 (hr.mono (by omega)) rfl E7 E9 E8 .nil E5 (A0 (pv 0) (A0 (pv 1) A5))))
   (A6 (sS 7 nd (A8 (A0 A7 A5)))
   (A6 (D7 (B7 (PW.pt (N1 (B0 (CO (K:=K) hr.units) (pv 2) (pv 7) rfl) (M7 (B0 (kEq (K:=K) hu) (B5 C3 (B5 C0 (pv 6) A3) A3) A3 rfl)))) (A6 (sS 8 nd (C8 C4 (hr.mono (by omega)) rfl F3 F4 F2 .nil E5 (A0 (pv 0) (A0 (pv 1) (A0 (A8 (A0 A7 A5)) (A0 (pv 3) (A0 (pv 4) (A0 (B5 T4 (pv 5) A3) A5))))))))
   (A6 (N2 (i:=9) nd rfl rfl (cS (N:=KB) (sc:=B3 AG) (caps:=[6]) (ns:=q6L)) rfl rfl rfl (O6 rfl B.range_ (A0 A3 A5)) (λ_ _ _ _ _=>P5) (λ_ _ _ _ _=>(A8 (A0 A7 (A0 (B5 C3 (B5 C0 (B5 C0 (pv 1) A3) (ixE K w (K1 (A0 A3 (A0 A3 (A0 A3 A5)))) (pv 0))) A3) A5)))))
   (A9 (B4 (A8 (A0 A7 (A0 (GM ix_str A7 (B5 C3 (pv 6) A3) (λ_ _=>rfl)) (A0 (A8 (A0 A7 (A0 (pv 8) (A0 (ixE K w (pv 9) A3) (A0 (ixE K w (pv 9) A3) A5))))) (A0 (ixE K w (pv 9) A3) A5))))))))) B6))
   (A6 (B7 (B0 (CO (K:=K) hr.units) (pv 2) (pv 7) rfl) (A6 (sS 9 nd (C8 J9 (hr.mono (by omega)) rfl M5 L9 M4 .nil E5 (A0 (pv 0) (A0 (pv 1) (A0 (K1 (A0 (pv 7) (A0 (pv 7) A5))) (A0 (pv 3) (A0 (pv 4) (A0 (pv 5) A5))))))))
   (A9 (B4 (A8 (A0 A7 (A0 (GM ix_str A7 (B5 C3 (pv 6) A3) (λ_ _=>rfl)) (A0 (ixE K w (pv 9) A3) (A0 (ixE K w (pv 9) A3) A5)))))))) B6)
   (A6 (D7 (B7 (PW.pt (N1 (B0 (kEq (K:=K) hu) (ixE K w (pv 2) A3) A7 rfl) (M7 (B0 (kEq (K:=K) hu) (B5 C3 (pv 6) A3) A3 rfl)))) (A9 (B4 (A8 (A0 A7 (A0 A7 (A0 (C8 C4 (hr.mono (by omega)) rfl F3 F4 F2 .nil E5 (A0 (pv 0) (A0 (pv 1) (A0 (pv 2) (A0 (pv 3) (A0 (pv 4) (A0 (pv 5) A5))))))) A5)))))) B6))
   (A6 (D7 (B7 (PW.pt (N1 (B0 (kEq (K:=K) hu) (ixE K w (pv 2) A3) A7 rfl) (M7 (B0 (kEq (K:=K) hu) (B5 C3 (pv 6) A3) A3 rfl)))) (A9 (B4 (A8 (A0 A7 (A0 A7 (A0 (C8 C4 (hr.mono (by omega)) rfl F3 F4 F2 .nil E5 (A0 (pv 0) (A0 (pv 1) (A0 (A8 (A0 A7 (A0 (C8 K3 (hr.mono (by omega)) rfl Q7 Q8 Q6 .nil E5 (A0 (B5 C0 (pv 6) A3) A5)) A5))) (A0 (pv 3) (A0 (pv 4) (A0 (pv 5) A5))))))) A5)))))) B6))
   (A6 (B7 (B0 (kEq (K:=K) hu) (ixE K w (pv 2) A3) A7 rfl) (A6 (sS 9 nd (C8 J9 (hr.mono (by omega)) rfl M5 L9 M4 .nil E5 (A0 (pv 0) (A0 (pv 1) (A0 (K1 (A0 (pv 7) (A0 (pv 7) A5))) (A0 (pv 3) (A0 (pv 4) (A0 (pv 5) A5))))))))
   (A9 (B4 (A8 (A0 A7 (A0 (GM ix_str A7 (B5 C3 (B5 C0 (pv 6) A3) A3) (λ_ _=>rfl)) (A0 (ixE K w (pv 9) A3) (A0 (ixE K w (pv 9) A3) A5)))))))) B6)
   (A6 (D7 (B7 (PW.pt (N1 (B0 (kEq (K:=K) hu) (ixE K w (pv 2) A3) A7 rfl) (M7 (B0 (kEq (K:=K) hu) (B5 C3 (pv 6) A3) A3 rfl)))) (A9 (B4 (A8 (A0 A7 (A0 A7 (A0 (C8 C4 (hr.mono (by omega)) rfl F3 F4 F2 .nil E5 (A0 (pv 0) (A0 (pv 1) (A0 (pv 2) (A0 (pv 3) (A0 (pv 4) (A0 (pv 5) A5))))))) A5)))))) B6))
   (A6 (B7 (B0 (kEq (K:=K) hu) (ixE K w (pv 2) A3) A7 rfl) (A6 (sS 9 nd (C8 J9 (hr.mono (by omega)) rfl M5 L9 M4 .nil E5 (A0 (pv 0) (A0 (pv 1) (A0 (K1 (A0 (ixE K w (pv 2) A3) (A0 (pv 2) A5))) (A0 (pv 3) (A0 (pv 4) (A0 (pv 5) A5))))))))
   (A9 (B4 (A8 (A0 A7 (A0 A7 (A0 (ixE K w (pv 9) A3) (A0 (ixE K w (pv 9) A3) A5)))))))) B6)
   (A6 (sS 10 nd (ixE K w (C8 D2 (hr.mono (by omega)) rfl J6 J5 J3 .nil E5 (A0 (ixE K w (pv 1) A3) A5)) (B5 C3 (B5 C0 (pv 6) A3) A3)))
   (A9 (B4 (A8 (A0 A7 (A0 (pv 10) (A0 (C8 C4 (hr.mono (by omega)) rfl F3 F4 F2 .nil E5 (A0 (pv 0) (A0 (pv 1) (A0 (ixE K w (pv 2) A3) (A0 (C8 D4 (hr.mono (by omega)) rfl K9 L1 K8 .nil E5 (A0 (pv 3) (A0 (pv 10) (A0 (ixE K w (pv 2) A3) A5)))) (A0 (pv 4) (A0 (pv 5) A5))))))) A5)))))))))))))))), ?_⟩
 refine⟨_,rfl,_,rfl,c,l,ns,a,sh,ms,rfl,G.s,by omega,λx H1 x0 x1 k1 hl1=>⟨K0,λp0 hp0=> ?_⟩⟩;have G1:=G.kl k1 hl1 (by omega);have s2:=A1 hp0 (.tup [.str "number"]);have G2:=G1.same s2;have hk2:=(hk.mono (k1.tups G.s.sp)).mono (A4 s2);have hn2:KA _ .num (.ref p0):=.num (A2:(upd H1 p0 (.tup [.str "number"])) p0=_);have k2:Kl l H _:=k1.trans (Kl.of s2);show S9 _ _ _ [some (.ref c),some (.ref l),some kv,some (.ref dn),some (.ref fl),some (.int dp),some (.int x),some (.ref p0),none,none,none] (upd H1 p0 (.tup [.str "number"]));generalize upd H1 p0 (.tup [.str "number"])=H2 at G2 hk2 hn2 k2⊢;have q2:Mk H2 l (a+1) sh ms F g k (1+2*gc d) (24+5*d+5) Q:=λt v a' H' h1 h2 h3 h4 h5 h6 h7=>q t v a' H' (k2.trans h1) h2 (by omega) (by omega) h5 h6 h7;clear s2 hp0 hl1 G1;refine⟨fun σ' H'=>σ'=[some (.ref c),some (.ref l),some kv,some (.ref dn),some (.ref fl),some (.int dp),some (.int x),some (.ref p0),none,none,none]/\H2=H', ?_, ?_⟩
 ·refine⟨_,rfl,_,rfl,CD hk2 hn2 (by omega) ⟨_,rfl,F9 (λc1=> ?_) (λc1=>ifF nZ ⟨rfl,rfl⟩)⟩⟩;have ek:k=.num:=of_decide_eq_true c1;subst ek;refine⟨_,rfl,_,_,rfl,rfl,lg (by decide) (by decide),_,_,rfl,rfl,(by decide:(0:Int)<5),.inl ⟨rfl,_,rfl,F9 (λc2=> ?_) (λc2=>⟨rfl,rfl⟩)⟩⟩;refine⟨_,rfl,_,rfl,K0,λp1 hp1=> ?_⟩;have t1:=A1 hp1 (.tup [.str "truth"]);refine⟨_,rfl,_,rfl,_,rfl,_,_,rfl,rfl,c,l,dn,fl,ns,a+1,sh,ms,g,m,F,.tru,.ref p1,dp - 1,rfl,G2.same t1,by omega,m0,.tru A2,(by show 1+d<=8;omega),by omega,by omega,λt v a' H5 k5 hl5 h1 h2 ht hT hdt=> ?_⟩;have k25:=(Kl.of t1).trans k5;refine⟨3,rfl,by decide,by decide,P1 (n:=3) (λi ys H'=>Same H5 H'/\∃ts:List Tm,All2 (T1 H') ts ys/\ys.length=i/\∀y∈ts,Ty F g y (.t .num)/\dt y<=1) ⟨Same.refl _,[],.nil,rfl,λy hy=>nomatch hy⟩ ?_ ?_ ?_⟩
  ·rintro i ys H' hi ⟨_,ts,_,hyl,_⟩;rw[hyl];exact Nat.le_trans hi (by decide)
  ·rintro i ys H' hi ⟨sm,ts,hts,hyl,hty⟩;refine T3 ?_;refine⟨_,rfl,_,_,rfl,rfl,lg (by decide) (by decide),C7,λl6 hl6=> ?_⟩;have t6:=A1 hl6 (.lst [.int 1,.int 5,.int 25]);obtain⟨b,hb,hb0,hb1⟩:∃b:Int,atI [V.int 1,.int 5,.int 25] (0+(i:Int))=some (.int b)/\0<b/\b<2^60:=by
    have hi':i=0\/i=1\/i=2:=by omega
    rcases hi' with rfl|rfl|rfl
    ·exact⟨1,rfl,by decide,by decide⟩
    ·exact⟨5,rfl,by decide,by decide⟩
    ·exact⟨25,rfl,by decide,by decide⟩
   refine⟨_,rfl,(ixL A2 hb ⟨_,_,rfl,rfl,lg hb0 hb1,_,_,rfl,rfl,(by decide:(0:Int)<5),C5,λp7 hp7=> ?_⟩)⟩;have g1:=Int.emod_nonneg ((x.fdiv 20).fdiv b) (by decide:(5:Int)≠0);have g2:=Int.emod_lt_of_pos ((x.fdiv 20).fdiv b) (by decide:(0:Int)<5);have t7:=t6.trans (A1 hp7 (.tup [.str "number",.int ((x.fdiv 20).fdiv b%5)]));refine⟨sm.trans t7,ts++ [.num ((x.fdiv 20).fdiv b%5)],(hts.imp λ_ _ h=>h.mono (A4 t7)).app (.cons (.num A2) .nil),by rw[length_append,hyl];rfl,λy hy=> ?_⟩;rcases mem_append.mp hy with hy|hy
   ·exact hty y hy
   ·rw[sZ hy];exact⟨.num (Int.le_trans (by decide: -GR<=0) g1) (Int.le_trans (Int.le_of_lt g2) (by decide)),Nat.le_refl _⟩
  rintro ys H6 ⟨sm,ts,hts,hyl,hty⟩ l7 hl7;have t7:=A1 hl7 (.lst ys);have hts7:=hts.imp λ_ _ h=>h.mono (A4 t7);have htl:=hts.len;obtain⟨t0,t1',t2',v0,v1,v2,rfl,rfl,z0,z1,z2⟩:=QQ hts7 hyl;obtain⟨y0,d0⟩:=hty t0 (by simp);obtain⟨y1,d1⟩:=hty t1' (by simp);obtain⟨y2,d2⟩:=hty t2' (by simp);obtain⟨cc,sk,hc,hsk,ecs⟩:=MG (z:="+-*/") (ks:=[0,1,2,5]) (by decide +kernel) (by decide) (by decide +kernel) (j:=x%4) (Int.emod_nonneg _ (by decide)) (Int.emod_lt_of_pos _ (by decide));have hsk6:sk<6/\sk≠3/\sk≠4:=by revert hsk;simp;omega
  refine⟨_,rfl,_,_,rfl,rfl,(by decide:(0:Int)<4),"+-*/",_,cc,rfl,rfl,(by decide +kernel),hc,_,rfl,_,rfl,(ixL A2 rfl ⟨_,rfl,(ixL A2 rfl ⟨P2,λp8 hp8=> ?_⟩)⟩)⟩;have t8:=A1 hp8 (.tup [.str "if",v,v0,v1]);refine⟨_,rfl,(ixL (t8 _ _ A2) rfl ⟨P2,λp9 hp9=> ?_⟩)⟩;rw[ecs];have t9:=A1 hp9 (.tup [.str "two",.str (sg sk),.ref p8,v2]);have t89:=t8.trans t9;have t69:=sm.trans (t7.trans t89);exact q2 (.two (sg sk) (.ite t t0 t1') t2') _ a' _ (k25.trans (Kl.of t69)) (t69 _ _ hl5) h1 (by omega) (.two A2 (.ite (t9 _ _ A2) (ht.mono (A4 t69)) (z0.mono (A4 t89)) (z1.mono (A4 t89))) (z2.mono (A4 t89))) (IS hsk6.1 hsk6.2.1 hsk6.2.2 (.ite hT y0 y1) y2) (by show max (max (dt t) (max (dt t0) (dt t1'))+1) (dt t2')+1<=_;omega)
 rintro _ _ ⟨rfl,rfl⟩;refine⟨_,rfl,_,rfl,CD hk2 hn2 (by omega) ⟨_,rfl,F9 (λc1=> ?_) (λc1=> ?_)⟩⟩
 ·have ek:k=.num:=of_decide_eq_true c1;subst ek;refine⟨_,rfl,_,rfl,_,rfl,_,rfl,C5,λl4 hl4=> ?_⟩;have t2:=A1 hl4 (.lst [.ref p0,.ref p0]);have hn4:=hn2.mono (A4 t2);refine⟨_,rfl,_,rfl,_,rfl,c,l,dn,fl,l4,ns,a+1,sh,ms,g,m,F,[.num,.num],_,dp,rfl,G2.same t2,(by show a+1+2*gc d<=_;omega),m0,A2,.cons hn4 (.cons hn4 .nil),(by decide),(λk' hk'=> ?_),by omega,hdp,λr ts vs a' H6 hr0 k6 hl6 h1 h2 hr hts hty=> ?_⟩
  ·rcases cZ hk' with rfl|hk'
   ·show 1+d<=8;omega
   ·rw[sZ hk'];show 1+d<=8;omega
  have h2:a'<=a+1+2*gc d:=h2;cases hty with
  | @cons t0 _ _ _ y0 hty=>
  cases hty with
  | @cons t1' _ _ _ y1 hty=>
  cases hty;cases hts with
  | @cons _ v0 _ _ z0 hts=>
  cases hts with
  | @cons _ v1 _ _ z1 hts=>
  cases hts;obtain⟨cc,sk,hc,hsk,ecs⟩:=MG (z:="+-*/") (ks:=[0,1,2,5]) (by decide +kernel) (by decide) (by decide +kernel) (j:=x%4) (Int.emod_nonneg _ (by decide)) (Int.emod_lt_of_pos _ (by decide));have hsk6:sk<6/\sk≠3/\sk≠4:=by revert hsk;simp;omega
  refine⟨_,rfl,_,_,rfl,rfl,(by decide:(0:Int)<4),"+-*/",_,cc,rfl,rfl,(by decide +kernel),hc,_,rfl,(ixL hr rfl ⟨_,rfl,(ixL hr rfl ⟨P2,λp9 hp9=> ?_⟩)⟩)⟩;rw[ecs];have t9:=A1 hp9 (.tup [.str "two",.str (sg sk),v0,v1]);exact q2 (.two (sg sk) t0 t1') _ a' _ ((Kl.of t2).trans (k6.trans (Kl.of t9))) (t9 _ _ hl6) h1 (by omega) (.two A2 (z0.mono (A4 t9)) (z1.mono (A4 t9))) (IS hsk6.1 hsk6.2.1 hsk6.2.2 y0.1 y1.1) (by show max (dt t0) (dt t1')+1<=_;have:=y0.2;have:=y1.2;omega)
 cases hk2 with
 |num=>exact absurd (decide_eq_true rfl) c1
 | @tru p hp=>
  refine⟨fun σ' H'=>σ'=[some (.ref c),some (.ref l),some (.ref p),some (.ref dn),some (.ref fl),some (.int dp),some (.int x),some (.ref p0),none,none,none]/\H2=H', ?_, ?_⟩
  ·refine⟨_,rfl,(ixT hp rfl (.inl ⟨rfl,_,rfl,ifT rfl ?_⟩))⟩;refine⟨_,rfl,_,_,rfl,rfl,(by decide:(0:Int)<4),.inl ⟨rfl,_,rfl,F9 (λc2=> ?_) (λc2=>⟨rfl,rfl⟩)⟩⟩;refine⟨_,rfl,_,rfl,_,rfl,_,rfl,_,rfl,_,rfl,c,l,dn,fl,ns,a+1,sh,ms,g,m,F,.tru,.ref p,dp,rfl,G2,by omega,m0,.tru hp,(by show 1+d<=8;omega),by omega,hdp,λt v a' H5 k5 hl5 h1 h2 ht hT hdt=>⟨C7,λp2 hp2=> ?_⟩⟩;have t2:=A1 hp2 (.tup [.str "one",.str "not",v]);exact q2 (.one "not" t) _ a' _ (k5.trans (Kl.of t2)) (t2 _ _ hl5) h1 (by omega) (.one A2 (ht.mono (A4 t2))) (.not hT) (by show dt t+1<=_;omega)
  rintro _ _ ⟨rfl,rfl⟩;refine⟨fun σ' H'=>σ'=[some (.ref c),some (.ref l),some (.ref p),some (.ref dn),some (.ref fl),some (.int dp),some (.int x),some (.ref p0),none,none,none]/\H2=H', ?_, ?_⟩
  ·refine⟨_,rfl,(ixT hp rfl (.inl ⟨rfl,_,rfl,ifT rfl ?_⟩))⟩;refine⟨_,rfl,_,_,rfl,rfl,(by decide:(0:Int)<4),.inl ⟨rfl,_,rfl,F9 (λc2=> ?_) (λc2=>⟨rfl,rfl⟩)⟩⟩;refine⟨_,rfl,_,rfl,_,rfl,_,_,rfl,rfl,lg (by decide) (by decide),_,rfl,λko ov H4 s4 hko hdo=>⟨C5,λp3 hp3=> ?_⟩⟩;have t3:=s4.trans (A1 hp3 (.tup [.str "list",ov]));refine⟨_,rfl,_,rfl,_,rfl,c,l,dn,fl,ns,a+1,sh,ms,g,m,F,.lst ko,.ref p3,dp,rfl,G2.same t3,by omega,m0,.lst A2 (hko.mono (A4 (A1 hp3 _))),(by show dk ko+1+d<=8;omega),by omega,hdp,λt v a' H5 k5 hl5 h1 h2 ht hT hdt=>⟨C7,λp2 hp2=> ?_⟩⟩;have t2:=A1 hp2 (.tup [.str "one",.str "empty",v]);exact q2 (.one "empty" t) _ a' _ ((Kl.of t3).trans (k5.trans (Kl.of t2))) (t2 _ _ hl5) h1 (by omega) (.one A2 (ht.mono (A4 t2))) (.empty hT) (by show dt t+1<=_;omega)
  rintro _ _ ⟨rfl,rfl⟩;refine⟨_,rfl,(ixT hp rfl (.inl ⟨rfl,_,rfl,ifT rfl ?_⟩))⟩;refine⟨_,rfl,_,rfl,_,rfl,_,rfl,C5,λl4 hl4=> ?_⟩;have t2:=A1 hl4 (.lst [.ref p0,.ref p0]);have hn4:=hn2.mono (A4 t2);refine⟨_,rfl,_,rfl,_,rfl,c,l,dn,fl,l4,ns,a+1,sh,ms,g,m,F,[.num,.num],_,dp,rfl,G2.same t2,(by show a+1+2*gc d<=_;omega),m0,A2,.cons hn4 (.cons hn4 .nil),(by decide),(λk' hk'=> ?_),by omega,hdp,λr ts vs a' H6 hr0 k6 hl6 h1 h2 hr hts hty=> ?_⟩
  ·rcases cZ hk' with rfl|hk'
   ·show 1+d<=8;omega
   ·rw[sZ hk'];show 1+d<=8;omega
  have h2:a'<=a+1+2*gc d:=h2;cases hty with
  | @cons t0 _ _ _ y0 hty=>
  cases hty with
  | @cons t1' _ _ _ y1 hty=>
  cases hty;cases hts with
  | @cons _ v0 _ _ z0 hts=>
  cases hts with
  | @cons _ v1 _ _ z1 hts=>
  cases hts;obtain⟨cc,sk,hc,hsk,ecs⟩:=MG (z:="<=") (ks:=[3,4]) (by decide +kernel) (by decide) (by decide +kernel) (j:=x.fdiv 4%2) (Int.emod_nonneg _ (by decide)) (Int.emod_lt_of_pos _ (by decide));have hsk6:sk=3\/sk=4:=by revert hsk;simp
  refine⟨_,rfl,_,_,rfl,rfl,lg (by decide) (by decide),_,_,rfl,rfl,(by decide:(0:Int)<2),"<=",_,cc,rfl,rfl,(by decide +kernel),hc,_,rfl,(ixL hr rfl ⟨_,rfl,(ixL hr rfl ⟨P2,λp9 hp9=> ?_⟩)⟩)⟩;rw[ecs];have t9:=A1 hp9 (.tup [.str "two",.str (sg sk),v0,v1]);exact q2 (.two (sg sk) t0 t1') _ a' _ ((Kl.of t2).trans (k6.trans (Kl.of t9))) (t9 _ _ hl6) h1 (by omega) (.two A2 (z0.mono (A4 t9)) (z1.mono (A4 t9))) (XM hsk6 y0.1 y1.1) (by show max (dt t0) (dt t1')+1<=_;have:=y0.2;have:=y1.2;omega)
 | @lst k' p u hp hku=>
  have dkk:dk (.lst k')=dk k'+1:=rfl;refine⟨fun σ' H'=>σ'=[some (.ref c),some (.ref l),some (.ref p),some (.ref dn),some (.ref fl),some (.int dp),some (.int x),some (.ref p0),none,none,none]/\H2=H', ?_, ?_⟩
  ·exact⟨_,rfl,(ixT hp rfl (.inl ⟨rfl,_,rfl,ifF nZ (ifF nZ ⟨rfl,rfl⟩)⟩))⟩
  rintro _ _ ⟨rfl,rfl⟩;refine⟨fun σ' H'=>σ'=[some (.ref c),some (.ref l),some (.ref p),some (.ref dn),some (.ref fl),some (.int dp),some (.int x),some (.ref p0),none,none,none]/\H2=H', ?_, ?_⟩
  ·exact⟨_,rfl,(ixT hp rfl (.inl ⟨rfl,_,rfl,ifF nZ (ifF nZ ⟨rfl,rfl⟩)⟩))⟩
  rintro _ _ ⟨rfl,rfl⟩;refine⟨_,rfl,(ixT hp rfl (.inl ⟨rfl,_,rfl,ifF nZ ?_⟩))⟩;refine⟨fun σ' H'=>σ'=[some (.ref c),some (.ref l),some (.ref p),some (.ref dn),some (.ref fl),some (.int dp),some (.int x),some (.ref p0),none,none,none]/\H2=H', ?_, ?_⟩
  ·refine⟨_,rfl,(ixT hp rfl (.inl ⟨rfl,_,rfl,ifT rfl ?_⟩))⟩;refine⟨_,rfl,_,_,rfl,rfl,(by decide:(0:Int)<4),.inl ⟨rfl,_,rfl,F9 (λc2=> ?_) (λc2=>⟨rfl,rfl⟩)⟩⟩;refine⟨_,rfl,_,rfl,_,rfl,_,rfl,_,rfl,_,rfl,c,l,dn,fl,ns,a+1,sh,ms,g,m,F,.lst k',.ref p,dp,rfl,G2,by omega,m0,.lst hp hku,by omega,by omega,hdp,λt v a' H5 k5 hl5 h1 h2 ht hT hdt=>⟨C7,λp2 hp2=> ?_⟩⟩;have t2:=A1 hp2 (.tup [.str "one",.str "tail",v]);exact q2 (.one "tail" t) _ a' _ (k5.trans (Kl.of t2)) (t2 _ _ hl5) h1 (by omega) (.one A2 (ht.mono (A4 t2))) (.tail hT) (by show dt t+1<=_;omega)
  rintro _ _ ⟨rfl,rfl⟩;refine⟨_,rfl,(ixT hp rfl (.inl ⟨rfl,_,rfl,ifT rfl ?_⟩))⟩;refine⟨_,rfl,_,rfl,_,rfl,(ixT hp rfl ⟨_,rfl,C5,λl4 hl4=> ?_⟩)⟩;have t2:=A1 hl4 (.lst [u,.ref p]);refine⟨_,rfl,_,rfl,_,rfl,c,l,dn,fl,l4,ns,a+1,sh,ms,g,m,F,[k',.lst k'],_,dp,rfl,G2.same t2,(by show a+1+2*gc d<=_;omega),m0,A2,.cons (hku.mono (A4 t2)) (.cons (.lst (t2 _ _ hp) (hku.mono (A4 t2))) .nil),(by show 2<=4;decide),(λk2 hk'=> ?_),by omega,hdp,λr ts vs a' H6 hr0 k6 hl6 h1 h2 hr hts hty=> ?_⟩
  ·rcases cZ hk' with rfl|hk'
   ·omega
   ·rw[sZ hk'];omega
  have h2:a'<=a+1+2*gc d:=h2;cases hty with
  | @cons t0 _ _ _ y0 hty=>
  cases hty with
  | @cons t1' _ _ _ y1 hty=>
  cases hty;cases hts with
  | @cons _ v0 _ _ z0 hts=>
  cases hts with
  | @cons _ v1 _ _ z1 hts=>
  cases hts;refine⟨_,rfl,(ixL hr rfl ⟨_,rfl,(ixL hr rfl ⟨P2,λp9 hp9=> ?_⟩)⟩)⟩;have t9:=A1 hp9 (.tup [.str "two",.str ":",v0,v1]);exact q2 (.two ":" t0 t1') _ a' _ ((Kl.of t2).trans (k6.trans (Kl.of t9))) (t9 _ _ hl6) h1 (by omega) (.two A2 (z0.mono (A4 t9)) (z1.mono (A4 t9))) (.cat y0.1 y1.1) (by show max (dt t0) (dt t1')+1<=_;have:=y0.2;have:=y1.2;omega)
 | @fn ka kb p u u' hp hku hku'=>
  have dkk:dk (.fn ka kb)=max (dk ka) (dk kb)+1:=rfl;refine⟨fun σ' H'=>σ'=[some (.ref c),some (.ref l),some (.ref p),some (.ref dn),some (.ref fl),some (.int dp),some (.int x),some (.ref p0),none,none,none]/\H2=H', ?_, ?_⟩
  ·exact⟨_,rfl,(ixT hp rfl (.inl ⟨rfl,_,rfl,ifF nZ (ifF nZ ⟨rfl,rfl⟩)⟩))⟩
  rintro _ _ ⟨rfl,rfl⟩;refine⟨fun σ' H'=>σ'=[some (.ref c),some (.ref l),some (.ref p),some (.ref dn),some (.ref fl),some (.int dp),some (.int x),some (.ref p0),none,none,none]/\H2=H', ?_, ?_⟩
  ·exact⟨_,rfl,(ixT hp rfl (.inl ⟨rfl,_,rfl,ifF nZ (ifF nZ ⟨rfl,rfl⟩)⟩))⟩
  rintro _ _ ⟨rfl,rfl⟩;refine⟨_,rfl,(ixT hp rfl (.inl ⟨rfl,_,rfl,ifF nZ ?_⟩))⟩;refine⟨fun σ' H'=>σ'=[some (.ref c),some (.ref l),some (.ref p),some (.ref dn),some (.ref fl),some (.int dp),some (.int x),some (.ref p0),none,none,none]/\H2=H', ?_, ?_⟩
  ·exact⟨_,rfl,(ixT hp rfl (.inl ⟨rfl,_,rfl,ifF nZ (ifF nZ ⟨rfl,rfl⟩)⟩))⟩
  rintro _ _ ⟨rfl,rfl⟩;refine⟨_,rfl,(ixT hp rfl (.inl ⟨rfl,_,rfl,ifF nZ ?_⟩))⟩;refine⟨_,rfl,(ixL G2.s.sp rfl ⟨sh,rfl,λln ss H4 s4 ⟨hn1,hn2',hn3,hn4⟩=> ?_⟩)⟩;obtain⟨z,hz,hzm⟩:=AY (ss:=ss) (j:=x.fdiv 4%3) (Int.emod_nonneg _ (by decide)) (by have:=Int.emod_lt_of_pos (x.fdiv 4) (by decide:(0:Int)<3);omega);refine⟨_,rfl,_,_,rfl,rfl,lg (by decide) (by decide),_,_,rfl,rfl,(by decide:(0:Int)<3),(ixL hn1 hz ?_)⟩;have G4:=G2.same s4;refine⟨_,rfl,_,rfl,_,rfl,_,rfl,(ixT (s4 _ _ hp) rfl ⟨_,rfl,_,rfl,_,rfl,(ixT (s4 _ _ hp) rfl ⟨dn,m,g,z,ka,u,rfl,G4.n,by omega,hku.mono (A4 s4),by omega,λdn2 H6 s6 hD6=> ?_⟩)⟩)⟩;have G6:=G4.same s6;refine⟨_,rfl,_,rfl,c,l,dn2,fl,ns,a+1,sh,ms,up g z ka,m+1,F,kb,u',dp,rfl,⟨G6.s,hD6,G6.f⟩,by omega,by omega,(hku'.mono (A4 s4)).mono (A4 s6),by omega,by omega,hdp,λt v a' H7 k7 hl7 h1 h2 ht hT hdt=>⟨C7,λp8 hp8=> ?_⟩⟩;have t8:=A1 hp8 (.tup [.str "fn",.str z,v]);exact q2 (.fn z t) _ a' _ ((Kl.of (s4.trans s6)).trans (k7.trans (Kl.of t8))) (t8 _ _ hl7) h1 (by omega) (.fn A2 (ht.mono (A4 t8))) (.fn hT) (by show dt t+1<=_;omega)
end
end _G
namespace _G
open PySem _L _B
section
variable{P:Program}{w:World}{K:FZ}{mg:Str->Option Value}{base:Heap}{D1 F7 L4 D3 D6 N7 G0 L6 D9 O0 N6:Addr}{F1 K4 N8 F5 J0 R1 M3 N9 G9 R9 R6:FuncData}
theorem HI{sp:Sp}{CX:CXT}{k:Nat}{f:Addr}{fd:FuncData}{ps:List Str}(h:∀vs H Q E,¬sp vs H Q E):FnOk P w K mg base CX k f fd ps sp:=⟨λ_ _ _ _ z=>(h _ _ _ _ z).elim,λ_ _ _ _ _ _ _ _ _ _ _ _ _ z=>(h _ _ _ _ z).elim⟩
theorem ok_leafs(F_law_leaf:Fun K "_law_leaf" "_law_leaf" T6 G0 M3)(B:NoL mg)
  (D8:FnOk P w K mg base CX0 1 D1 F1 ES DM)(E8:Binds K F1 ES [])(E9:kZ K (.ref D1)=true)(E7:mg "_law_cell"=some (.ref D1))
  (B8:FnOk P w K mg base CX0 1 F7 K4 JG (AR K))(U0:Binds K K4 JG [])(T8:kZ K (.ref F7)=true)(T9:mg "_law_cell_at"=some (.ref F7))
  (D2:FnOk P w K mg base CX0 2 D3 F5 EL AV)(J3:Binds K F5 EL [])(J5:kZ K (.ref D3)=true)(J6:mg "_law_names"=some (.ref D3))
  (D4:FnOk P w K mg base CX0 1 D6 J0 EK CG)(K8:Binds K J0 EK [])(L1:kZ K (.ref D6)=true)(K9:mg "_law_with"=some (.ref D6))
  (L5:Binds K M3 IW [])(L0:kZ K (.ref G0)=true)(K7:mg "_law_leaf"=some (.ref G0)):
  ∀n,FnOk P w K mg base CX0 (n+3) G0 M3 IW (FE n)
 |0=>HI λvs H Q E ⟨_,_,_,_,_,_,_,_,_,k,_,_,_,_,_,_,_,h,_,_⟩=>absurd h (by have:=MC k;omega)
 |n+1=>QD F_law_leaf B D8 E8 E9 E7 B8 U0 T8 T9 D2 J3 J5 J6 D4 K8 L1 K9 (ok_leafs F_law_leaf B D8 E8 E9 E7 B8 U0 T8 T9 D2 J3 J5 J6 D4 K8 L1 K9 L5 L0 K7 n) L5 L0 K7
noncomputable def amZ:Sp:=λ_ _ _ _=>False
theorem ok_goods(F_law_some:Fun K "_law_some" "_law_some" X7 L6 N9)(F_law_good:Fun K "_law_good" "_law_good" AM D9 G9)(F_law_common:Fun K "_law_common" "_law_common" S8 O0 R9)(F_law_own:Fun K "_law_own" "_law_own" AG N6 R6)(B:NoL mg)
  (D8:FnOk P w K mg base CX0 1 D1 F1 ES DM)(E8:Binds K F1 ES [])(E9:kZ K (.ref D1)=true)(E7:mg "_law_cell"=some (.ref D1))
  (K3:FnOk P w K mg base CX0 1 L4 N8 q6L IE)(Q6:Binds K N8 q6L [])(Q8:kZ K (.ref L4)=true)(Q7:mg "_law_kind"=some (.ref L4))
  (D2:FnOk P w K mg base CX0 2 D3 F5 EL AV)(J3:Binds K F5 EL [])(J5:kZ K (.ref D3)=true)(J6:mg "_law_names"=some (.ref D3))
  (D4:FnOk P w K mg base CX0 1 D6 J0 EK CG)(K8:Binds K J0 EK [])(L1:kZ K (.ref D6)=true)(K9:mg "_law_with"=some (.ref D6))
  (M9:FnOk P w K mg base CX0 1 N7 R1 q4L HA)(Y2:Binds K R1 q4L [])(Y3:kZ K (.ref N7)=true)(Y1:mg "_law_taker"=some (.ref N7))
  (M0:FnOk P w K mg base CX0 11 G0 M3 IW (FE 8))(L5:Binds K M3 IW [])(L0:kZ K (.ref G0)=true)(K7:mg "_law_leaf"=some (.ref G0))
  (M4:Binds K N9 NP [])(L9:kZ K (.ref L6)=true)(M5:mg "_law_some"=some (.ref L6))
  (F2:Binds K G9 W7 [])(F4:kZ K (.ref D9)=true)(F3:mg "_law_good"=some (.ref D9))
  (S3:Binds K R9 W7 [])(S4:kZ K (.ref O0)=true)(S0:mg "_law_common"=some (.ref O0))
  (R7:Binds K R6 W7 [])(R3:kZ K (.ref N6)=true)(R5:mg "_law_own"=some (.ref N6)):
  ∀d,FnOk P w K mg base CX0 (4*d+12) D9 G9 W7 (AQ d)
 |0=>RK (d:=0) (L:=11) (LC:=0) (LO:=0) (spC:=amZ) (spO:=amZ) (Nat.le_refl _) (zero_le _) (zero_le _) (λ_ e=>nomatch e) (λ_ e=>nomatch e) F_law_good D8 E8 E9 E7 M0 L5 L0 K7 (HI λ_ _ _ _ h=>h) S3 S4 S0 (HI λ_ _ _ _ h=>h) R7 R3 R5
 |d+1=>by
  have C4:=ok_goods F_law_some F_law_good F_law_common F_law_own B D8 E8 E9 E7 K3 Q6 Q8 Q7 D2 J3 J5 J6 D4 K8 L1 K9 M9 Y2 Y3 Y1 M0 L5 L0 K7 M4 L9 M5 F2 F4 F3 S3 S4 S0 R7 R3 R5 d;have J9:=ok_some F_law_some C4 F2 F4 F3;have X1:=bDZ F_law_own B D8 E8 E9 E7 K3 Q6 Q8 Q7 D2 J3 J5 J6 D4 K8 L1 K9 J9 M4 L9 M5 C4 F2 F4 F3;have AH:=SO F_law_common B D8 E8 E9 E7 K3 Q6 Q8 Q7 D2 J3 J5 J6 D4 K8 L1 K9 M9 Y2 Y3 Y1 J9 M4 L9 M5 C4 F2 F4 F3 X1 R7 R3 R5;exact RK (d:=d+1) (L:=4*d+15) (LC:=4*d+15) (LO:=4*d+14) (by omega) (Nat.le_refl _) (by omega) (λd' e vs H Q E h=>by cases e;exact h) (λd' e vs H Q E h=>by cases e;exact h) F_law_good D8 E8 E9 E7 M0 L5 L0 K7 AH S3 S4 S0 X1 R7 R3 R5
end
end _G
namespace _G
open PySem _L _B
seal PE PT PW PA PS PSs PTs PI _L.PG PGs PO
noncomputable abbrev AU:Stmt:=_B.top 46
noncomputable abbrev AK:Stmt:=_B.top 47
noncomputable abbrev HU:List Str:=["_law_cell_here","_law_name_here"]
theorem sc_law_head:FnScope HU q2L (B3 AU):=fS
noncomputable abbrev HX:List Str:=["_law_script","_law_one","_law_names_here","_law_spot","_law_known","_law_funs","_law_first","_law_more","_law_again","_law_end","_law_rest"]
theorem sc_law_down:FnScope HX qL9 (B3 AK):=fS
noncomputable def ScrAt(K:FZ)(H:Hp)(a:Addr)(ns:List Int):Prop:=(∃o,H a=some (.frz o (.lst (ns.map V.int))))\/
 ∃(o:Obj) (its:Array Value) (n:Nat),K.lookup a=some o/\o.cls=.type "list"/\o.dict=none/\o.data=.seq its n/\its.size<=sizeLine/\Vals (ns.map V.int) its.toList
theorem ScrAt.sq{K:FZ}{H:Hp}{a:Addr}{ns:List Int}(h:ScrAt K H a ns):SqL K H a (ns.map V.int):=h.elim (λ⟨o,h⟩=> .inl (.inr ⟨o,h⟩)) .inr
theorem ScrAt.kl{K:FZ}{H H':Hp}{a l:Addr}{ns:List Int}{xs:List V}(k:Kl l H H')(hl:H l=some (.lst xs))(h:ScrAt K H a ns):ScrAt K H' a ns:=h.imp (λ⟨o,h⟩=>⟨o,k _ _ h (λe=>by rw[e,hl]at h;cases h)⟩) id
theorem XB(ns:List Int):P3 (ns.map V.int) (some 5) none=(ns.drop 5).map V.int:=by
 have:=ET (ns.map V.int) 5;rw[show((5:Nat):Int)=5 from rfl]at this;rw[this,List.map_drop]
theorem c7Z(xs:List V){n:Nat}(h:xs.length=8)(hn:n<=7):P3 xs (some 2) (some (1+(n:Int)))=(xs.drop 2).take (n - 1):=by
 unfold P3;rw[show(2:Int)=((2:Nat):Int)from rfl,show(1+(n:Int))=((n+1:Nat):Int) by omega,HT.sIx_nat,HT.sIx_nat,h,show min 2 8=2 from rfl,show min (n+1) 8 - 2=n - 1 by omega]
theorem FH{K:FZ}{H:Hp}{p q:Addr}{us:List V}{u:V}{Q:VK}(hp:H p=some (.tup [u]))(hq:H q=some (.tup us))(hz:us.length<=100000)
  (go:∀r H',Same H H'->H' r=some (.tup (u::us))->Q (.ref r) H'):GN K (.ref p) (.ref q) H Q:=by
 have zz:(100001:Nat)<=sizeLine:=by decide
 exact⟨p,q,[u],us,rfl,rfl,SqT.of hp,SqT.of hq,cons_ne_nil _ _,(by simp only[length_cons,length_nil];omega),(λe=>by subst e;exact go _ _ (Same.refl _) hp),λ_ r hr=>go _ _ (A1 hr _) A2⟩
theorem NmsAt.kl{H H':Hp}{l nl:Addr}{a b c:Int}{ss:List Str}(k:Kl l H H')(hl:H l=some (.lst [.int a,.int b,.int c]))(h:NmsAt H nl ss):NmsAt H' nl ss:=
 ⟨k _ _ h.1 (λe=>by
  have h1:=h.1;rw[e,hl]at h1;have h2:=h.2.1;cases ss with
  |nil=>cases h2
  |cons x r=>cases h1),h.2⟩
structure Bv (K:FZ) (H:Hp) (sc nl l dn fl:Addr) (ns:List Int) (ss:List Str) (a sh ms:Int) (g:Cx) (m:Nat) (F:Fs) (z:Str) (ks:List Kd) (k:Kd) (ov:V):Prop where
 scr:ScrAt K H sc ns
 nl63:ns.length<=63
 nms:NmsAt H nl ss
 sp:H l=some (.lst [.int a,.int sh,.int ms])
 a0:0<=a
 n:DAt H m g dn
 f:FnsAt H F fl
 one:FhA H (z,ks,k) ov
 mem:(z,ks,k)∈F
 par:∀i q,ks[i]? =some q->∃y,ss[i+1]? =some y/\g y=some q
theorem Bv.kl{K:FZ}{H H':Hp}{sc nl l dn fl:Addr}{ns:List Int}{ss:List Str}{a a' sh ms ms':Int}{g:Cx}{m:Nat}{F:Fs}{z:Str}{ks:List Kd}{k:Kd}{ov:V}(B:Bv K H sc nl l dn fl ns ss a sh ms g m F z ks k ov)(q:Kl l H H')(e:H' l=some (.lst [.int a',.int sh,.int ms']))(h:a<=a'):Bv K H' sc nl l dn fl ns ss a' sh ms' g m F z ks k ov:=
 ⟨B.scr.kl q B.sp,B.nl63,B.nms.kl q B.sp,e,Int.le_trans B.a0 h,B.n.kl q B.sp,B.f.kl q B.sp,B.one.kl q B.sp,B.mem,B.par⟩
theorem Bv.same{K:FZ}{H H':Hp}{sc nl l dn fl:Addr}{ns:List Int}{ss:List Str}{a sh ms:Int}{g:Cx}{m:Nat}{F:Fs}{z:Str}{ks:List Kd}{k:Kd}{ov:V}(B:Bv K H sc nl l dn fl ns ss a sh ms g m F z ks k ov)(q:Same H H'):Bv K H' sc nl l dn fl ns ss a sh ms g m F z ks k ov:=B.kl (Kl.of q) (q _ _ B.sp) (Int.le_refl _)
theorem Bv.gv{K:FZ}{H:Hp}{sc nl l dn fl:Addr}{ns:List Int}{ss:List Str}{a sh ms:Int}{g:Cx}{m:Nat}{F:Fs}{z:Str}{ks:List Kd}{k:Kd}{ov:V}(B:Bv K H sc nl l dn fl ns ss a sh ms g m F z ks k ov){c:Addr}(hc:H c=some (.lst ((ns.drop 5).map V.int)))(hne:c≠l):Gv H c l dn fl (ns.drop 5) a sh ms g m F:=
 ⟨⟨hc,B.sp,hne,B.a0,by have:=B.nl63;rw[length_drop];omega⟩,B.n,B.f⟩
section
variable{P:Program}{w:World}{K:FZ}{mg:Str->Option Value}{base:Heap}{f L4 D9 D6:Addr}{fd N8 G9 J0:FuncData}
inductive spHeadW(vs:List V)(H:Hp)(Q:VK):Prop
 |mk:∀(x:Int) (z:Str),(vs=[.int x,.str z])->(∀(ks:List Kd) (k:Kd) (v:V) H',Same H H'->FhA H' (z,ks,k) v->ks.length<=4->(∀q∈ks,dk q<=3)->dk k<=3->Q v H')->spHeadW vs H Q
noncomputable def WL:Sp:=λvs H Q _=>spHeadW vs H Q
theorem ok_law_head(F:Fun K "_law_head" "_law_head" AU f fd)(B:NoL mg)
  (K3:Cn P w K mg base CX0 1 "_law_kind" q6L IE):
  FnOk P w K mg base CX0 2 f fd q2L WL:=by
 refine F.ok sc_law_head (λvs H Q E h=> ?_) (λcdv A outer s H vs Q E hr h=> ?_)
 ·obtain⟨x,z,rfl,_⟩:=h;rfl
 obtain⟨x,z,rfl,q⟩:=h;have nd:=sc_law_head.nd;have hu:=hr.units0;refine⟨_,(A9 (B4 (A8 (A0 (pv 1) (A0 (U2 (cS (N:=HU) (sc:=B3 AU) (caps:=[0]) (ns:=q6L)) rfl rfl rfl (O6 rfl B.range_ (A0 (B5 C3 (pv 0) A3) A5)) (λ_ _ _ _ _=>P5) (λ_ _ _ _ _=>(cC K3 hr (A0 (B5 C0 (B5 C0 (pv 1) A3) (B5 (E4 (K:=K)) A3 (B5 U1 A3 (pv 0)))) A5)))) (A0 (cC K3 hr (A0 (B5 C0 (pv 0) A3) A5)) A5)))))), ?_⟩;have g1:=Int.emod_nonneg x (by decide:(5:Int)≠0);have g2:=Int.emod_lt_of_pos x (by decide:(0:Int)<5);obtain⟨n,en,hn⟩:∃n:Nat,x%5=(n:Int)/\n<=4:=⟨(x%5).toNat,by omega,by omega⟩;refine⟨_,rfl,_,rfl,_,_,rfl,rfl,(by decide:(0:Int)<5),_,rfl,by omega,by omega, ?_⟩;rw[en];refine P1 (n:=n) (λi ys H'=>Same H H'/\∃ks:List Kd,All2 (KA H') ks ys/\ys.length=i/\∀q∈ks,dk q<=3) ⟨Same.refl _,[],.nil,rfl,λy hy=>nomatch hy⟩ ?_ ?_ ?_
 ·rintro i ys H' hi ⟨_,ks,_,hyl,_⟩;rw[hyl];exact Nat.le_trans hi (Nat.le_trans hn (by decide))
 ·rintro i ys H' hi ⟨sm,ks,hks,hyl,hdk⟩;refine T3 ?_;refine⟨_,rfl,_,_,rfl,rfl,lg (by decide) (by decide),_,rfl,_,_,rfl,rfl,ml ⟨by decide,by decide⟩,.inl ⟨_,_,rfl,rfl,_,_,rfl,rfl,lg (by omega) (by omega),_,rfl,λk v H2 s2 hk hd=>⟨sm.trans s2,ks++ [k],(hks.imp λ_ _ h=>h.mono (A4 s2)).app (.cons hk .nil),by rw[length_append,hyl];rfl,λy hy=> ?_⟩⟩⟩;rcases mem_append.mp hy with hy|hy
  ·exact hdk y hy
  ·rw[sZ hy];exact hd
 rintro ys H2 ⟨sm,ks,hks,hyl,hdk⟩ l hl;have t1:=A1 hl (.lst ys);refine⟨_,rfl,_,_,rfl,rfl,lg (by decide) (by decide),_,rfl,λk v H3 s3 hk hd=>⟨C7,λp hp=> ?_⟩⟩;have t3:=A1 hp (.tup [.str z,.ref l,v]);have t13:=t1.trans (s3.trans t3);exact q ks k _ _ (sm.trans t13) ⟨p,l,ys,v,rfl,A2,(s3.trans t3) _ _ A2,hks.imp λ_ _ h=>h.mono (A4 t13),hk.mono (A4 t3)⟩ (by rw[hks.len,hyl];exact hn) hdk hd
inductive spDownW (K:FZ) (vs:List V) (H:Hp) (Q:VK):Prop
 |mk:∀(sc nl l dn fl:Addr) (ns:List Int) (ss:List Str) (a sh ms:Int) (g:Cx) (m:Nat) (F:Fs) (z:Str) (ks:List Kd) (k:Kd) (ov:V),(vs=[.ref sc,ov,.ref nl,.ref l,.ref dn,.ref fl])->(Bv K H sc nl l dn fl ns ss a sh ms g m F z (.num::ks) k ov)->(a<=2^40)->(m<=10)->(Mk H l a sh ms F g k (2^20) 46 Q)->spDownW K vs H Q
noncomputable def VB(K:FZ):Sp:=λvs H Q _=>spDownW K vs H Q
theorem ok_law_down(F:Fun K "_law_down" "_law_down" AK f fd)(B:NoL mg)
  (C4:Cn P w K mg base CX0 28 "_law_good" W7 (AQ 4))
  (D4:Cn P w K mg base CX0 1 "_law_with" EK CG):
  FnOk P w K mg base CX0 29 f fd qL9 (VB K):=by
 refine F.ok sc_law_down (λvs H Q E h=> ?_) (λcdv A outer s H vs Q E hr h=> ?_)
 ·obtain⟨sc,nl,l,dn,fl,ns,ss,a,sh,ms,g,m,F,z,ks,k,ov,rfl,_⟩:=h;rfl
 obtain⟨sc,nl,l,dn,fl,ns,ss,a,sh,ms,g,m,F,z,ks,k,ov,rfl,V0,ha,hm,q⟩:=h;have nd:=sc_law_down.nd;have hu:=hr.units0;have hgc:gc 4=187500:=by decide
 obtain⟨hk3,hks3,hkl⟩:=V0.f.sm _ V0.mem;have hk3:dk k<=3:=hk3;obtain⟨y1,hy1,gy1⟩:=V0.par 0 .num rfl;have hsl:=V0.nms.2.1;obtain⟨y0,hy0⟩:∃y0,ss[0]? =some y0:=⟨_,List.getElem?_eq_getElem (by omega)⟩;have at1:atI (ss.map V.str) ((1:Nat):Int)=some (.str y1):=D5 (by rw[getElem?_map,hy1];rfl);have at0:atI (ss.map V.str) ((0:Nat):Int)=some (.str y0):=D5 (by rw[getElem?_map,hy0];rfl);have hone:=V0.one;obtain⟨po,qo,us,wo,rfl,hpo,hqo,hus,hwo⟩:=hone;have hul:=hus.len;have hul:ks.length+1=us.length:=hul;have hkl:ks.length+1<=4:=hkl;refine⟨_,(A6 (sS 6 nd (A8 (A0 A7 (A0 (ixE K w (pv 2) A3) A5))))
   (A6 (sS 7 nd (F6 (AT (K:=K)) rfl B.tuple_ M6 (A0 (U2 (cS (N:=HX) (sc:=B3 AK) (caps:=[]) (ns:=[])) rfl rfl rfl (W8 (K:=K) (C2 (kSl (K:=K)) (pv 2) (C6 A3) (C6 (B5 (E4 (K:=K)) A3 (kL K B.len_ (ixE K w (pv 1) A3)))))) (λ_ _ _ _ _=>P5) (λ_ _ _ _ _=>(A8 (A0 A7 (A0 (pv 0) A5))))) A5)))
   (A6 (sS 8 nd (A8 (A0 A7 (A0 (ixE K w (pv 1) A3) (A0 (B5 (E4 (K:=K)) (A8 (A0 (A8 (A0 A7 (A0 A7 (A0 (pv 6) (A0 (A8 (A0 A7 (A0 A3 A5))) A5))))) A5)) (pv 7)) A5)))))
   (A6 (sS 9 nd (cC C4 hr (A0 (C2 (kSl (K:=K)) (pv 0) (C6 A3) C9) (A0 (pv 3) (A0 (ixE K w (pv 1) A3) (A0 (pv 4) (A0 (pv 5) (A0 A3 A5))))))))
   (A6 (sS 10 nd (cC C4 hr (A0 (C2 (kSl (K:=K)) (pv 0) (C6 A3) C9) (A0 (pv 3) (A0 (ixE K w (pv 1) A3) (A0 (cC D4 hr (A0 (pv 4) (A0 (ixE K w (pv 2) A3) (A0 (ixE K w (pv 1) A3) A5)))) (A0 (pv 5) (A0 A3 A5))))))))
   (A9 (B4 (A8 (A0 A7 (A0 (A8 (A0 A7 (A0 A7 (A0 (pv 6) (A0 (A8 (A0 A7 (A0 A3 A5))) A5))))) (A0 (pv 9) (A0 (A8 (A0 A7 (A0 (ixE K w (pv 2) A3) (A0 (pv 8) (A0 (pv 10) A5))))) A5)))))))))))), ?_⟩
 refine⟨_,rfl,(ixL V0.nms.1 at1 ⟨C5,λp1 hp1=> ?_⟩)⟩;have t1:=A1 hp1 (.tup [.str "name",.str y1]);have V1':=V0.same t1;have hf1:(upd H p1 (.tup [.str "name",.str y1])) p1=some (.tup [.str "name",.str y1]):=A2;generalize upd H p1 (.tup [.str "name",.str y1])=H1 at t1 V1' hf1⊢;refine⟨_,rfl,_,rfl,_,rfl,(ixT (t1 _ _ hpo) rfl ⟨_,_,rfl,.inl ⟨_,SqL.of (t1 _ _ hqo),rfl⟩,.inl ⟨_,_,rfl,rfl,_,rfl,.inl ⟨nl,_,rfl,SqL.of V1'.nms.1,λp2 hp2=>⟨p2,rfl,⟨_,SqL.of A2⟩, ?_⟩⟩⟩⟩)⟩;rw[c7Z (ss.map V.str) (by rw[length_map];exact hsl) (by omega:us.length<=7)];have t2:=A1 hp2 (.lst (((ss.map V.str).drop 2).take (us.length - 1)));have hl2:(upd H1 p2 (.lst (((ss.map V.str).drop 2).take (us.length - 1)))) p2=some (.lst (((ss.map V.str).drop 2).take (us.length - 1))):=A2;generalize upd H1 p2 (.lst (((ss.map V.str).drop 2).take (us.length - 1)))=H2 at t2 hl2⊢;have hxl:(((ss.map V.str).drop 2).take (us.length - 1)).length=ks.length:=by rw[length_take,length_drop,length_map,hsl];omega
 refine X2 (xs:=((ss.map V.str).drop 2).take (us.length - 1)) (λi ys H'=>Same H2 H'/\∃ts:List Tm,All2 (T1 H') ts ys/\All2 (λt q=>Ty F g t (.t q)/\dt t<=1) ts (ks.take i)/\ys.length=i) ⟨Same.refl _,[],.nil,.nil,rfl⟩ ?_ ?_ ?_
 ·rintro i ys H' hi ⟨sm,ts,_,_,hyl⟩;exact⟨SqL.of (sm _ _ hl2),by rw[hyl];rw[hxl]at hi;exact Nat.le_trans hi (Nat.le_trans (by omega:ks.length<=4) (by decide))⟩
 ·rintro i x ys H' hx ⟨sm,ts,hts,hty,hyl⟩;refine T3 ?_;have hi:i<ks.length:=by rw[<-hxl];exact(List.getElem?_eq_some_iff.mp hx).1
  obtain⟨y,hy,gy⟩:=V0.par (i+1) ks[i] (by simp[hi]);have ex:x=.str y:=by
   rw[List.getElem?_take,if_pos (by omega),List.getElem?_drop,getElem?_map,show 2+i=i+1+1 by omega,hy]at hx;exact(Option.some.inj hx).symm
  subst ex;refine⟨_,rfl,C5,λp3 hp3=> ?_⟩;have t3:=A1 hp3 (.tup [.str "name",.str y]);refine⟨sm.trans t3,ts++ [.name y],(hts.imp λ_ _ h=>h.mono (A4 t3)).app (.cons (.name A2) .nil), ?_,by rw[length_append,hyl];rfl⟩;rw[_B.take_one (List.getElem?_eq_getElem hi)];exact hty.app (.cons ⟨.name gy,Nat.le_refl _⟩ .nil)
 rintro ys H3 ⟨sm,ts,hts,hty,hyl⟩ r3 hr3;rw[hxl]at hyl;rw[hxl,take_of_length_le (Nat.le_refl _)]at hty;refine⟨r3,_,rfl,.inl ⟨SqL.of A2,λp4 hp4=> ?_⟩⟩;have t3:=A1 hr3 (.lst ys);have t4:=A1 hp4 (.tup ys);have t14:=t2.trans (sm.trans (t3.trans t4));have V4:=V1'.same t14;have hf4:=t14 _ _ hf1;have hts4:=hts.imp λ_ _ h=>h.mono (A4 (t3.trans t4));have hy4:(upd (upd H3 r3 (.lst ys)) p4 (.tup ys)) p4=some (.tup ys):=A2;have k4:Kl l H _:=Kl.of (t1.trans t14);generalize upd (upd H3 r3 (.lst ys)) p4 (.tup ys)=H4 at t14 V4 hf4 hts4 hy4 k4⊢;have hpo4:=(t1.trans t14) _ _ hpo;have hwo4:=(hwo.mono (A4 t1)).mono (A4 t14);refine⟨_,rfl,(ixT hpo4 rfl ⟨_,rfl,C5,λp5 hp5=>⟨P2,λp6 hp6=>⟨K0,λp7 hp7=> ?_⟩⟩⟩)⟩;have t5:=A1 hp5 (.tup [.str "number",.int 1]);have t6:=A1 hp6 (.tup [.str "two",.str "-",.ref p1,.ref p5]);have t7:=A1 hp7 (.tup [.ref p6]);have t57:=t5.trans (t6.trans t7);refine⟨_,rfl,.inr (.inl (FH A2 (t57 _ _ hy4) (by omega) λp8 H8 s8 hp8=>⟨C7,λp9 hp9=> ?_⟩))⟩;have t9:=A1 hp9 (.tup [.str "call",.str z,.ref p8]);have t49:=t57.trans (s8.trans t9);have hargs:TA (upd H8 p9 (.tup [.str "call",.str z,.ref p8])) (X9 (.two "-" (.name y1) (.num 1)::ts)) (.inr (.ref p6::ys)):=LJ (.cons (.two ((t7.trans (s8.trans t9)) _ _ A2) (.name (t49 _ _ hf4)) (.num ((t6.trans (t7.trans (s8.trans t9))) _ _ A2))) (hts4.imp λ_ _ h=>h.mono (A4 t49)));have hcall:T1 (upd H8 p9 (.tup [.str "call",.str z,.ref p8])) (.call z (X9 (.two "-" (.name y1) (.num 1)::ts))) (.ref p9):=.call A2 (t9 _ _ hp8) hargs;have ty1:Ty F g (.two "-" (.name y1) (.num 1)) (.t .num)/\dt (.two "-" (.name y1) (.num 1))<=2:=⟨IS (k:=1) (by decide) (by decide) (by decide) (.name gy1) (.num (by decide) (by decide)),by simp[dt]⟩;obtain⟨r1,r2⟩:=NL (F:=F) (g:=g) (D:=2) (ts:=.two "-" (.name y1) (.num 1)::ts) (ks:=.num::ks) (.cons ty1 (hty.imp λ_ _ h=>⟨h.1,Nat.le_trans h.2 (by decide)⟩));have hlk:F.lookup z=some (.num::ks,k):=GZ V0.f.nd V0.mem;have V9:=V4.same t49;have hf9:=t49 _ _ hf4;have k9:=k4.trans (Kl.of t49);have hpo9:=t49 _ _ hpo4;have hwo9:=hwo4.mono (A4 t49);generalize upd H8 p9 (.tup [.str "call",.str z,.ref p8])=H9 at hcall V9 hf9 k9 hpo9 hwo9⊢;clear t1 t2 t3 t4 t14 t5 t6 t7 t57 s8 t9 t49 hargs V1' V4 hf4 hts4 hy4 k4 hpo4 hwo4 hp1 hp2 hp4 hp5 hp6 hp7 hp8 hp9 hts hr3 sm hl2;refine⟨_,rfl,_,rfl,.inl ⟨sc,_,rfl,V9.scr.sq,λc hc=> ?_⟩⟩;rw[XB];have tc:=A1 hc (.lst ((ns.drop 5).map V.int));have hcl:c≠l:=λe=>by rw[e,V9.sp]at hc;cases hc
 refine⟨_,rfl,_,rfl,(ixT (tc _ _ hpo9) rfl ⟨_,rfl,_,rfl,c,l,dn,fl,_,a,sh,ms,g,m,F,k,wo,2,rfl,(V9.same tc).gv A2 hcl,by omega,by omega,hwo9.mono (A4 tc),by omega,by decide,by decide,λte ve a1 Ha ka hla ha1 ha2 hte hTe hde=> ?_⟩)⟩;have ka9:=(Kl.of tc).trans ka;have Va:=V9.kl ka9 hla ha1;have ma:=ka9.tups V9.sp;refine⟨_,rfl,_,rfl,.inl ⟨sc,_,rfl,Va.scr.sq,λc2 hc2=> ?_⟩⟩;rw[XB];have tc2:=A1 hc2 (.lst ((ns.drop 5).map V.int));have hcl2:c2≠l:=λe=>by rw[e,Va.sp]at hc2;cases hc2
 have Vb:=Va.same tc2;have hpob:=tc2 _ _ (ma _ _ hpo9);have hwob:=(hwo9.mono ma).mono (A4 tc2);refine⟨_,rfl,_,rfl,(ixT hpob rfl ⟨_,rfl,_,rfl,(ixL Vb.nms.1 at0 ⟨_,rfl,(ixT hpob rfl ⟨dn,m,g,y0,k,wo,rfl,Vb.n,by omega,hwob,by omega,λdn2 Hc sc2 hDc=> ?_⟩)⟩)⟩)⟩;have Vc:=Vb.same sc2;have Gc:=Vc.gv (sc2 _ _ A2) hcl2;refine⟨_,rfl,c2,l,dn2,fl,_,a1,sh,ms,up g y0 k,m+1,F,k,wo,3,rfl,⟨Gc.s,hDc,Gc.f⟩,by omega,by omega,hwob.mono (A4 sc2),by omega,by decide,by decide,λtr vr a2 Hd kd hld hd1 hd2 htr hTr hdr=> ?_⟩;have kcd:=(Kl.of (tc2.trans sc2)).trans kd;have mcd:=kcd.tups Va.sp;have md:=λb xs h=>mcd b xs (ma b xs h);have Vd:=Va.kl kcd hld hd1;refine⟨_,rfl,C5,λq1 hq1=>⟨P2,λq2 hq2=> ?_⟩⟩;have u1:=A1 hq1 (.tup [.str "number",.int 1]);have u2:=A1 hq2 (.tup [.str "two",.str "<",.ref p1,.ref q1]);refine⟨_,rfl,_,rfl,(ixL ((u1.trans u2) _ _ Vd.nms.1) at0 ⟨_,rfl,_,rfl,P2,λq3 hq3=>⟨P2,λq4 hq4=> ?_⟩⟩)⟩;have u3:=A1 hq3 (.tup [.str "let",.str y0,.ref p9,vr]);have u4:=A1 hq4 (.tup [.str "if",.ref q2,ve,.ref q3]);have u34:=u3.trans u4;have u14:=u1.trans (u2.trans u34);have mu:=A4 u14;refine q (.ite (.two "<" (.name y1) (.num 1)) te (.let_ y0 (.call z (X9 (.two "-" (.name y1) (.num 1)::ts))) tr)) _ a2 _ (k9.trans (ka9.trans (kcd.trans (Kl.of u14)))) (u14 _ _ hld) (by omega) (by omega) (.ite A2 (.two (u34 _ _ A2) (.name (mu _ _ (md _ _ hf9))) (.num ((u2.trans u34) _ _ A2))) ((hte.mono mcd).mono mu) (.let_ (u4 _ _ A2) ((hcall.mono md).mono mu) (htr.mono mu))) (.ite (XM (k:=3) (.inl rfl) (.name gy1) (.num (by decide) (by decide))) hTe (.let_ (.call hlk r1) hTr)) ?_;show max (max 1 1+1) (max (dt te) (max (dt (X9 (.two "-" (.name y1) (.num 1)::ts))+2) (dt tr)+1))+1<=46;omega
end
noncomputable abbrev DK:Stmt:=_B.top 48
noncomputable abbrev QS:List Str:=["_law_script","_law_one","_law_names_here","_law_spot","_law_known","_law_funs","_law_cell_here","_law_head_here","_law_terms","_law_call","_law_more"]
theorem sc_law_main:FnScope QS qL9 (B3 DK):=fS
theorem YB{K:FZ}{H:Hp}{ks:List Kd}{us:List V}{a b p:Addr}{Q:VK}(hus:All2 (KA H) ks us)(ha:SqL K H a (us.take 1))(hb:SqL K H b [.ref p])(hp:KA H .num (.ref p))(hd:∀k∈ks,dk k<=50)(q:∀bb:Bool,(bb=true->∃ks',ks=.num::ks')->Q (.bl bb) H):WG K (.ref a) (.ref b) H Q:=by
 cases hus with
 |nil=>exact⟨a,b,_,_,50,λ_=>true,rfl,rfl,ha,hb,Nat.le_refl _,(λj u v hu _=>by simp at hu),q _ (λe=>by simp[AB]at e)⟩
 | @cons k u ks us h hr=>
  refine⟨a,b,_,_,50,λ_=>decide (k=.num),rfl,rfl,ha,hb,Nat.le_refl _,(λj x y hx hy=> ?_),q _ (λe=> ?_)⟩
  ·match j,hx,hy with
   |0,hx,hy=>cases hx;cases hy;exact OT (hd k (by simp)) h hp
   |j+1,hx,hy=>simp at hy
  ·have:k=.num:=by simpa [AB]using e
   rw[this];exact⟨ks,rfl⟩
theorem cnZ(xs:List V):P3 xs none (some 1)=xs.take 1:=by
 have:=PK xs 1;exact this
section
variable{P:Program}{w:World}{K:FZ}{mg:Str->Option Value}{base:Heap}{f F7 L6 D9 D6:Addr}{fd K4 N9 G9 J0:FuncData}
inductive spMainW(K:FZ)(vs:List V)(H:Hp)(Q:VK):Prop
 |mk:∀(sc nl l dn fl:Addr) (ns:List Int) (ss:List Str) (a sh ms:Int) (g:Cx) (m:Nat) (F:Fs) (z:Str) (ks:List Kd) (k:Kd) (ov:V),(vs=[.ref sc,ov,.ref nl,.ref l,.ref dn,.ref fl])->(Bv K H sc nl l dn fl ns ss a sh ms g m F z ks k ov)->(1<F.length)->(a<=2^40)->(m<=10)->(Mk H l a sh ms F g k (2^20) 48 Q)->spMainW K vs H Q
noncomputable def VC(K:FZ):Sp:=λvs H Q _=>spMainW K vs H Q
theorem ok_law_main(F:Fun K "_law_main" "_law_main" DK f fd)(B:NoL mg)
  (B8:Cn P w K mg base CX0 1 "_law_cell_at" JG (AR K))
  (J9:Cn P w K mg base CX0 29 "_law_some" NP (MA 4))
  (D4:Cn P w K mg base CX0 1 "_law_with" EK CG)
  (C4:Cn P w K mg base CX0 28 "_law_good" W7 (AQ 4)):
  FnOk P w K mg base CX0 30 f fd qL9 (VC K):=by
 refine F.ok sc_law_main (λvs H Q E h=> ?_) (λcdv A outer s H vs Q E hr h=> ?_)
 ·obtain⟨sc,nl,l,dn,fl,ns,ss,a,sh,ms,g,m,F,z,ks,k,ov,rfl,_⟩:=h;rfl
 obtain⟨sc,nl,l,dn,fl,ns,ss,a,sh,ms,g,m,F,z,ks,k,ov,rfl,V0,hF1,ha,hm,q⟩:=h;have nd:=sc_law_main.nd;have hu:=hr.units0;have hgc:gc 4=187500:=by decide
 obtain⟨hk3,hks3,hkl⟩:=V0.f.sm _ V0.mem;have hk3:dk k<=3:=hk3;have hsl:=V0.nms.2.1;obtain⟨y0,hy0⟩:∃y0,ss[0]? =some y0:=⟨_,List.getElem?_eq_getElem (by omega)⟩;have at0:atI (ss.map V.str) ((0:Nat):Int)=some (.str y0):=D5 (by rw[getElem?_map,hy0];rfl);have hone:=V0.one;obtain⟨po,qo,us,wo,rfl,hpo,hqo,hus,hwo⟩:=hone;obtain⟨fus,hfl,hfus⟩:=V0.f.at_;have hful:=hfus.len;refine⟨_,(A6 (sS 6 nd (B5 C0 (cC B8 hr (A0 (pv 0) (A0 A3 A5))) A3))
   (A6 (sS 7 nd (ixE K w (pv 5) (B5 C3 (B5 C0 (pv 6) A3) (B5 T4 (kL K B.len_ (pv 5)) A3))))
   (A6 (sS 8 nd (cC J9 hr (A0 (C2 (kSl (K:=K)) (pv 0) (C6 A3) C9) (A0 (pv 3) (A0 (ixE K w (pv 7) A3) (A0 (pv 4) (A0 (pv 5) (A0 A3 A5))))))))
   (A6 (D7 (B7 (PW.pt (N1 (B0 (aHZ (K:=K) hr.units) (C2 (kSl (K:=K)) (ixE K w (pv 7) A3) C9 (C6 A3)) (K1 (A0 (A8 (A0 A7 A5)) A5)) rfl) (M7 (B0 BF (B5 C3 (pv 6) A3) A3 rfl)))) (A9 (Z7 (A8 (A0 A7 (A0 (B5 C3 (B5 C0 (pv 6) A3) (ixE K w (K1 (A0 A3 (A0 A3 A5))) (B5 T4 (B5 C3 (pv 6) A3) A3))) A5))) (DU (pv 8) A3 AF))) B6))
   (A6 (sS 9 nd (A8 (A0 A7 (A0 (ixE K w (pv 7) A3) (A0 (F6 (AT (K:=K)) rfl B.tuple_ M6 (A0 (pv 8) A5)) A5)))))
   (A6 (D7 (B7 (PW.pt (N1 (NJ (CO (K:=K) hr.units) (CO (K:=K) hr.units) (ixE K w (pv 7) A3) (ixE K w (pv 1) A3) (A8 (A0 A7 A5))) (M7 (B0 (kEq (K:=K) hu) (B5 C3 (cC B8 hr (A0 (pv 0) (A0 A3 A5))) A3) A3 rfl)))) (A9 (B4 (A8 (A0 A7 (A0 A7 (A0 (A8 (A0 A7 (A0 A7 (A0 (pv 9) (A0 (pv 9) A5))))) (A0 (pv 9) A5))))))) B6))
   (A6 (sS 10 nd (cC D4 hr (A0 (pv 4) (A0 (ixE K w (pv 2) A3) (A0 (ixE K w (pv 7) A3) A5)))))
   (A9 (B4 (A8 (A0 A7 (A0 (ixE K w (pv 2) A3) (A0 (pv 9) (A0 (cC C4 hr (A0 (C2 (kSl (K:=K)) (pv 0) (C6 A3) C9) (A0 (pv 3) (A0 (ixE K w (pv 1) A3) (A0 (pv 10) (A0 (pv 5) (A0 A3 A5))))))) A5)))))))))))))), ?_⟩
 refine⟨_,rfl,sc,ns,2,rfl,V0.scr.sq,by decide,_,_,rfl,rfl,lg (by decide) (by decide), ?_⟩;generalize(E6 ns 2).fdiv 8=x;have pos:(0:Int)<(fus.length:Nat) - 1:=by omega
 have g1:=Int.emod_nonneg (x.fdiv 200) (Int.ne_of_gt pos);have g2:=Int.emod_lt_of_pos (x.fdiv 200) pos;obtain⟨u,hu1,hu2⟩:∃u,atI fus (x.fdiv 200%((fus.length:Nat) - 1))=some u/\fus[(x.fdiv 200%((fus.length:Nat) - 1)).toNat]? =some u:=by
  have h3:(x.fdiv 200%((fus.length:Nat) - 1)).toNat<fus.length:=by omega
  have e:atI fus (((x.fdiv 200%((fus.length:Nat) - 1)).toNat:Nat):Int)=some _:=D5 (List.getElem?_eq_getElem h3);rw[show(((x.fdiv 200%((fus.length:Nat) - 1)).toNat:Nat):Int)=x.fdiv 200%((fus.length:Nat) - 1) by omega]at e;exact⟨_,e,List.getElem?_eq_getElem h3⟩
 obtain⟨⟨z1,ks1,kk1⟩,he,hfe⟩:=hfus.get hu2;have heF:=mem_of_getElem? he;obtain⟨b1,b2,b3⟩:=V0.f.sm _ heF;have b1:dk kk1<=3:=b1;have b2:∀k∈ks1,dk k<=3:=b2;have b3:ks1.length<=4:=b3;obtain⟨p1,q1,us1,w1,rfl,hp1,hq1,hus1,hw1⟩:=hfe;have hul1:=hus1.len;refine⟨_,rfl,_,rfl,_,_,rfl,rfl,lg (by decide) (by decide),_,rfl,_,_,rfl,.inl ⟨_,SqL.of hfl,rfl⟩,_,_,rfl,rfl,_,_,rfl,rfl,pos,(ixL hfl hu1 ?_)⟩;refine⟨_,rfl,_,rfl,.inl ⟨sc,_,rfl,V0.scr.sq,λc hc=> ?_⟩⟩;rw[XB];have tc:=A1 hc (.lst ((ns.drop 5).map V.int));have hcl:c≠l:=λe=>by rw[e,V0.sp]at hc;cases hc
 have hlen:(ks1.length:Int)*gc 4<=4*gc 4:=Int.mul_le_mul_of_nonneg_right (by omega) (by omega);refine⟨_,rfl,_,rfl,(ixT (tc _ _ hp1) rfl ⟨_,rfl,_,rfl,c,l,dn,fl,q1,_,a,sh,ms,g,m,F,ks1,us1,2,rfl,(V0.same tc).gv A2 hcl,by omega,by omega,tc _ _ hq1,hus1.imp λ_ _ h=>h.mono (A4 tc),b3,λk' hk'=>by have:=b2 k' hk';omega,by decide,by decide,λr ts vs a1 Ha hr0 ka hla ha1 ha2 hra hts hty=> ?_⟩)⟩;have k1:=(Kl.of tc).trans ka;have Va:=V0.kl k1 hla ha1;have ma:=k1.tups V0.sp;have hp1a:=ma _ _ hp1;have hf1a:FhA Ha (z1,ks1,kk1) (.ref p1):=FhA.kl k1 V0.sp ⟨p1,q1,us1,w1,rfl,hp1,hq1,hus1,hw1⟩;have hq1a:Ha q1=some (.lst us1):=k1 _ _ hq1 (BZ V0.sp hq1 hus1 λ_ _=>LP);have hus1a:=hus1.imp λ_ _ h=>h.mono ma;have hr0':H r=none:=by
  cases e:H r with
  |none=>rfl
  |some o=>rw[tc _ _ e]at hr0;cases hr0
 have hrl:r≠l:=λe=>by rw[e,V0.sp]at hr0';cases hr0'
 show S9 _ _ _ [some (.ref sc),some (.ref po),some (.ref nl),some (.ref l),some (.ref dn),some (.ref fl),some (.int x),some (.ref p1),some (.ref r),none,none] Ha;refine⟨fun σ' H'=>σ'=[some (.ref sc),some (.ref po),some (.ref nl),some (.ref l),some (.ref dn),some (.ref fl),some (.int x),some (.ref p1),some (.ref r),none,none]/\∃(ts':List Tm) (vs':List V),Kl l H H'/\Mo Ha H'/\H' l=some (.lst [.int a1,.int sh,.int ms])/\H' r=some (.lst vs')/\All2 (T1 H') ts' vs'/\All2 (λt k=>Ty F g t (.t k)/\dt t<=44) ts' ks1, ?_, ?_⟩
 ·refine⟨_,rfl,(ixT hp1a rfl ⟨_,rfl,.inl ⟨q1,_,rfl,SqL.of hq1a,λs1 hs1=>⟨K0,λp2 hp2=>⟨K0,λl3 hl3=> ?_⟩⟩⟩⟩)⟩;rw[cnZ]at hp2 hl3⊢;have e1:=A1 hs1 (.lst (us1.take 1));have e2:=A1 hp2 (.tup [.str "number"]);have e3:=A1 hl3 (.lst [.ref p2]);have e13:=e1.trans (e2.trans e3);have kept:∀ {HH:Hp},Same Ha HH->∃(ts':List Tm) (vs':List V),Kl l H HH/\Mo Ha HH/\HH l=some (.lst [.int a1,.int sh,.int ms])/\HH r=some (.lst vs')/\All2 (T1 HH) ts' vs'/\All2 (λt k=>Ty F g t (.t k)/\dt t<=44) ts' ks1:=λ{HH} sm=>⟨ts,vs,k1.trans (Kl.of sm),A4 sm,sm _ _ hla,sm _ _ hra,hts.imp λ_ _ h=>h.mono (A4 sm),hty⟩;refine YB (hus1a.imp λ_ _ h=>h.mono (A4 e13)) (SqL.of ((e2.trans e3) _ _ A2)) (SqL.of A2) (.num (e3 _ _ A2)) (λk' hk'=>by have:=b2 k' hk';omega) λbb hbb=>⟨_,rfl,F9 (λc1=> ?_) (λc1=>ifF nZ ⟨rfl,kept e13⟩)⟩;obtain⟨ks',rfl⟩:=hbb c1;refine⟨_,rfl,_,_,rfl,rfl,(by decide:(0:Int)<3),_,_,rfl,rfl,_,rfl,F9 (λc2=> ?_) (λc2=>⟨rfl,kept e13⟩)⟩;have c2':(0:Int)<x%3:=of_decide_eq_true c2;have h3:=Int.emod_lt_of_pos x (by decide:(0:Int)<3);obtain⟨b,hb,hb0,hb1⟩:∃b:Int,atI [V.int 5,.int 71] (x%3 - 1)=some (.int b)/\0<b/\b<=71:=by
   have hj:x%3 - 1=0\/x%3 - 1=1:=by omega
   rcases hj with hj|hj<;>rw[hj]
   ·exact⟨5,rfl,by decide,by decide⟩
   ·exact⟨71,rfl,by decide,by decide⟩
  cases hty with
  | @cons t0 _ ts _ y0' hty=>
  cases hts with
  | @cons _ v0 _ vs z0 hts=>
  refine⟨_,rfl,_,_,rfl,rfl,lg (by decide) (by decide),C5,λl4 hl4=>⟨_,rfl,_,_,rfl,rfl,(by decide:(0:Int)<3),_,_,rfl,rfl,(ixL A2 hb ⟨_,_,rfl,rfl,hb0,C5,λp5 hp5=> ?_⟩)⟩⟩;have e4:=A1 hl4 (.lst [.int 5,.int 71]);have e5:=A1 hp5 (.tup [.str "number",.int (x.fdiv 3%b)]);have e15:=e13.trans (e4.trans e5);have g3:=Int.emod_nonneg (x.fdiv 3) (Int.ne_of_gt hb0);have g4:=Int.emod_lt_of_pos (x.fdiv 3) hb0;refine⟨_,rfl,r,_,0,0,rfl,rfl,e15 _ _ hra,WY (by decide) (by simp only[length_cons];omega), ?_⟩;generalize hH5:upd (upd (upd (upd (upd Ha s1 (.lst (us1.take 1))) p2 (.tup [.str "number"])) l3 (.lst [.ref p2])) l4 (.lst [.int 5,.int 71])) p5 (.tup [.str "number",.int (x.fdiv 3%b)])=H5 at e15 e5;have hp5':H5 p5=some (.tup [.str "number",.int (x.fdiv 3%b)]):=by rw[<-hH5];exact A2
  have hr5:=e15 _ _ hra;have mr:Mo H5 (upd H5 r (.lst (.ref p5::vs))):=λbb xs e=>by rw[B9 (BL e hr5 (by intro z;cases z))];exact e
  have kr:Kl l H (upd H5 r (.lst (.ref p5::vs))):=λbb o e n=>by
   have nb:bb≠r:=λeb=>by rw[eb,hr0']at e;cases e
   rw[B9 nb];exact(k1.trans (Kl.of e15)) bb o e n
  have m15:Mo Ha (upd H5 r (.lst (.ref p5::vs))):=λbb xs e=>mr _ _ (e15 _ _ e);exact⟨rfl,.num (x.fdiv 3%b)::ts,.ref p5::vs,kr,m15,by rw[B9 (Ne.symm hrl)];exact e15 _ _ hla,A2,.cons (.num (mr _ _ hp5')) (hts.imp λ_ _ h=>h.mono m15),.cons ⟨.num (Int.le_trans (by decide: -GR<=0) g3) (Int.le_trans (Int.le_of_lt g4) (Int.le_trans hb1 (by decide))),by show 1<=44;decide⟩ hty⟩
 rintro _ Hb ⟨rfl,ts',vs',kb,mb,hlb,hrb,htsb,htyb⟩;have Vb:=V0.kl kb hlb ha1;have hp1b:=mb _ _ hp1a;have hw1b:=(hw1.mono ma).mono mb;have hwob:=(hwo.mono ma).mono mb;have hpob:=mb _ _ (ma _ _ hpo);refine⟨_,rfl,(ixT hp1b rfl ⟨_,rfl,r,_,rfl,.inl ⟨SqL.of hrb,λp6 hp6=>⟨C7,λp7 hp7=> ?_⟩⟩⟩)⟩;have e6:=A1 hp6 (.tup vs');have e7:=A1 hp7 (.tup [.str "call",.str z1,.ref p6]);have e67:=e6.trans e7;have hcall:T1 (upd (upd Hb p6 (.tup vs')) p7 (.tup [.str "call",.str z1,.ref p6])) (.call z1 (X9 ts')) (.ref p7):=.call A2 (e7 _ _ A2) (LJ (htsb.imp λ_ _ h=>h.mono (A4 e67)));obtain⟨r1,r2⟩:=NL htyb;have hlk:F.lookup z1=some (ks1,kk1):=GZ V0.f.nd heF;have hcT:Ty F g (.call z1 (X9 ts')) (.t kk1):=.call hlk r1;have hcd:dt (.call z1 (X9 ts'))<=46:=by show dt (X9 ts')+2<=46;omega
 have Vc:=Vb.same e67;have kc:=kb.trans (Kl.of e67);have hp1c:=e67 _ _ hp1b;have hw1c:=hw1b.mono (A4 e67);have hwoc:=hwob.mono (A4 e67);have hpoc:=e67 _ _ hpob;show S9 _ _ _ [some (.ref sc),some (.ref po),some (.ref nl),some (.ref l),some (.ref dn),some (.ref fl),some (.int x),some (.ref p1),some (.ref r),some (.ref p7),none] (upd (upd Hb p6 (.tup vs')) p7 (.tup [.str "call",.str z1,.ref p6]));generalize upd (upd Hb p6 (.tup vs')) p7 (.tup [.str "call",.str z1,.ref p6])=Hc at hcall Vc kc hp1c hw1c hwoc hpoc⊢;generalize Tm.call z1 (X9 ts')=ct at hcall hcT hcd;have hlen2:(ks1.length:Int)*gc 4<=750000:=by omega
 refine⟨fun σ' H'=>σ'=[some (.ref sc),some (.ref po),some (.ref nl),some (.ref l),some (.ref dn),some (.ref fl),some (.int x),some (.ref p1),some (.ref r),some (.ref p7),none]/\Same Hc H', ?_, ?_⟩
 ·refine⟨_,rfl,(ixT hp1c rfl ⟨_,rfl,(ixT hpoc rfl (CD hw1c hwoc (by omega) ⟨_,rfl,F9 (λc1=>⟨K0,λp8 hp8=> ?_⟩) (λc1=>⟨_,rfl,ifF nZ (ifF nZ ⟨rfl,Same.refl _⟩)⟩)⟩))⟩)⟩;have e8:=A1 hp8 (.tup [.str "number"]);refine CD (hwoc.mono (A4 e8)) (.num A2) (by omega) ⟨_,rfl,F9 (λc2=> ?_) (λc2=>ifF nZ ⟨rfl,e8⟩)⟩;have ek:k=.num:=of_decide_eq_true c2;have ek1:kk1=.num:=(of_decide_eq_true c1).trans ek;refine⟨_,rfl,sc,ns,5,rfl,(Vc.same e8).scr.sq,by decide,_,_,rfl,rfl,(by decide:(0:Int)<16),.inl ⟨rfl,_,rfl,F9 (λc3=> ?_) (λc3=>⟨rfl,e8⟩)⟩⟩;refine⟨_,rfl,_,rfl,P2,λp9 hp9=>⟨_,rfl,P2,λp10 hp10=> ?_⟩⟩;have e9:=A1 hp9 (.tup [.str "two",.str "-",.ref p7,.ref p7]);have e10:=A1 hp10 (.tup [.str "two",.str "+",.ref p9,.ref p7]);have e810:=e8.trans (e9.trans e10);have hc9:=hcall.mono (A4 e810);subst ek;subst ek1;exact q (.two "+" (.two "-" ct ct) ct) _ a1 _ (kc.trans (Kl.of e810)) (e810 _ _ Vc.sp) ha1 (by omega) (.two A2 (.two (e10 _ _ A2) hc9 hc9) hc9) (IS (k:=0) (by decide) (by decide) (by decide) (IS (k:=1) (by decide) (by decide) (by decide) hcT hcT) hcT) (by show max (max (dt ct) (dt ct)+1) (dt ct)+1<=48;omega)
 rintro _ Hd ⟨rfl,sd⟩;have Vd:=Vc.same sd;refine⟨_,rfl,_,rfl,(ixL Vd.nms.1 at0 ⟨_,rfl,(ixT (sd _ _ hp1c) rfl ⟨dn,m,g,y0,kk1,w1,rfl,Vd.n,by omega,hw1c.mono (A4 sd),by omega,λdn2 He se hDe=> ?_⟩)⟩)⟩;have Ve:=Vd.same se;refine⟨_,rfl,(ixL Ve.nms.1 at0 ⟨_,rfl,_,rfl,_,rfl,.inl ⟨sc,_,rfl,Ve.scr.sq,λc2 hc2=> ?_⟩⟩)⟩;rw[XB];have tc2:=A1 hc2 (.lst ((ns.drop 5).map V.int));have hcl2:c2≠l:=λe=>by rw[e,Ve.sp]at hc2;cases hc2
 have Gf:=(Ve.same tc2).gv A2 hcl2;have sdf:=sd.trans (se.trans tc2);refine⟨_,rfl,_,rfl,(ixT (sdf _ _ hpoc) rfl ⟨_,rfl,_,rfl,c2,l,dn2,fl,_,a1,sh,ms,up g y0 kk1,m+1,F,k,wo,3,rfl,⟨Gf.s,hDe.kl (Kl.of tc2) Ve.sp,Gf.f⟩,by omega,by omega,hwoc.mono (A4 sdf),by omega,by decide,by decide,λtr vr a2 Hg kg hlg hg1 hg2 htr hTr hdr=>⟨P2,λp11 hp11=> ?_⟩⟩)⟩;have e11:=A1 hp11 (.tup [.str "let",.str y0,.ref p7,vr]);have mg':=kg.tups Gf.s.sp;exact q (.let_ y0 ct tr) _ a2 _ (kc.trans ((Kl.of sdf).trans (kg.trans (Kl.of e11)))) (e11 _ _ hlg) (by omega) (by omega) (.let_ A2 (((hcall.mono (A4 sdf)).mono mg').mono (A4 e11)) (htr.mono (A4 e11))) (.let_ hcT hTr) (by show max (dt ct) (dt tr)+1<=48;omega)
end
noncomputable abbrev DL:Stmt:=_B.top 49
noncomputable abbrev PL:List Str:=["_law_script","_law_one","_law_names_here","_law_spot","_law_known","_law_funs","_law_way","_law_found","_law_cell_here","_law_taker_here"]
theorem sc_law_body:FnScope PL qL9 (B3 DL):=fS
section
variable{P:Program}{w:World}{K:FZ}{mg:Str->Option Value}{base:Heap}{f F7 aYZ aTZ D9 N7:Addr}{fd K4 a2Z a6Z G9 R1:FuncData}
inductive spBodyW(K:FZ)(vs:List V)(H:Hp)(Q:VK):Prop
 |mk:∀(sc nl l dn fl:Addr) (ns:List Int) (ss:List Str) (a sh ms:Int) (g:Cx) (m:Nat) (F:Fs) (z:Str) (ks:List Kd) (k:Kd) (ov:V),(vs=[.ref sc,ov,.ref nl,.ref l,.ref dn,.ref fl])->(Bv K H sc nl l dn fl ns ss a sh ms g m F z ks k ov)->(a<=2^40)->(m<=10)->(Mk H l a sh ms F g k (2^20) 49 Q)->spBodyW K vs H Q
noncomputable def XR(K:FZ):Sp:=λvs H Q _=>spBodyW K vs H Q
theorem ok_law_body(F:Fun K "_law_body" "_law_body" DL f fd)(B:NoL mg)
  (B8:Cn P w K mg base CX0 1 "_law_cell_at" JG (AR K))
  (CY:Cn P w K mg base CX0 30 "_law_main" qL9 (VC K))
  (DG:Cn P w K mg base CX0 29 "_law_down" qL9 (VB K))
  (C4:Cn P w K mg base CX0 28 "_law_good" W7 (AQ 4))
  (M9:Cn P w K mg base CX0 1 "_law_taker" q4L HA):
  FnOk P w K mg base CX0 31 f fd qL9 (XR K):=by
 refine F.ok sc_law_body (λvs H Q E h=> ?_) (λcdv A outer s H vs Q E hr h=> ?_)
 ·obtain⟨sc,nl,l,dn,fl,ns,ss,a,sh,ms,g,m,F,z,ks,k,ov,rfl,_⟩:=h;rfl
 obtain⟨sc,nl,l,dn,fl,ns,ss,a,sh,ms,g,m,F,z,ks,k,ov,rfl,V0,ha,hm,q⟩:=h;have nd:=sc_law_body.nd;have hu:=hr.units0;have hgc:gc 4=187500:=by decide
 obtain⟨hk3,hks3,hkl⟩:=V0.f.sm _ V0.mem;have hk3:dk k<=3:=hk3;have hks3:∀q∈ks,dk q<=3:=hks3;have hsl:=V0.nms.2.1;obtain⟨y0,hy0⟩:∃y0,ss[0]? =some y0:=⟨_,List.getElem?_eq_getElem (by omega)⟩;have at0:atI (ss.map V.str) ((0:Nat):Int)=some (.str y0):=D5 (by rw[getElem?_map,hy0];rfl);have hone:=V0.one;obtain⟨po,qo,us,wo,rfl,hpo,hqo,hus,hwo⟩:=hone;obtain⟨fus,hfl,hfus⟩:=V0.f.at_;have hful:=hfus.len;refine⟨_,(A6 (sS 6 nd (B5 C3 (B5 C0 (cC B8 hr (A0 (pv 0) (A0 A3 A5))) A3) A3))
   (A6 (D7 (B7 (PW.pt (N1 (B0 (kEq (K:=K) hu) (ixE K w (pv 1) A3) A7 rfl) (N1 (B0 BF (kL K B.len_ (pv 5)) A3 rfl) (M7 (B0 BF (pv 6) A3 rfl))))) (A9 (sS 7 nd (cC CY hr (A0 (pv 0) (A0 (pv 1) (A0 (pv 2) (A0 (pv 3) (A0 (pv 4) (A0 (pv 5) A5))))))))) (A9 (D7 (B7 (PW.pt (N1 (B0 (kNe (K:=K) hu) (ixE K w (pv 1) A3) A7 rfl) (N1 (B0 (aHZ (K:=K) hr.units) (C2 (kSl (K:=K)) (ixE K w (pv 1) A3) C9 (C6 A3)) (K1 (A0 (A8 (A0 A7 A5)) A5)) rfl) (M7 (B0 BF (pv 6) A3 rfl))))) (A9 (sS 7 nd (cC DG hr (A0 (pv 0) (A0 (pv 1) (A0 (pv 2) (A0 (pv 3) (A0 (pv 4) (A0 (pv 5) A5))))))))) (A9 (sS 7 nd (cC C4 hr (A0 (C2 (kSl (K:=K)) (pv 0) (C6 A3) C9) (A0 (pv 3) (A0 (ixE K w (pv 1) A3) (A0 (pv 4) (A0 (pv 5) (A0 A3 A5))))))))))))))
   (A6 (sS 8 nd (B5 C0 (cC B8 hr (A0 (pv 0) (A0 A3 A5))) A3))
   (A6 (D7 (B7 (PW.pt (N1 (B0 (CO (K:=K) hr.units) (ixE K w (pv 1) A3) (A8 (A0 A7 A5)) rfl) (M7 (B0 (kEq (K:=K) hu) (B5 C3 (pv 8) A3) A3 rfl)))) (A6 (sS 9 nd (cC M9 hr (A0 (B5 AC A3 (B5 U1 (B5 C0 (pv 8) A3) A3)) (A0 (pv 4) (A0 (ixE K w (pv 2) A3) (A0 OR A5))))))
   (A9 (B7 (B0 RC (pv 9) OR rfl) (A9 (B4 (A8 (A0 A7 (A0 (pv 9) (A0 (pv 7) A5)))))) B6))) B6))
   (A9 (B4 (pv 7))))))), ?_⟩
 refine⟨_,rfl,sc,ns,1,rfl,V0.scr.sq,by decide,_,_,rfl,rfl,lg (by decide) (by decide),_,_,rfl,rfl,(by decide:(0:Int)<3), ?_⟩;generalize(E6 ns 1).fdiv 15%3=way;refine⟨fun σ' H'=>∃(t:Tm) (v:V) (a':Int),σ'=[some (.ref sc),some (.ref po),some (.ref nl),some (.ref l),some (.ref dn),some (.ref fl),some (.int way),some v,none,none]/\Kl l H H'/\H' l=some (.lst [.int a',.int sh,.int ms])/\a<=a'/\a'<=a+2^20/\T1 H' t v/\Ty F g t (.t k)/\dt t<=48, ?_, ?_⟩
 ·have el2:∀(HH:Hp) (D:Ends),Same H HH->(∀σ' H',(∃(t:Tm) (v:V) (a':Int),σ'=[some (.ref sc),some (.ref po),some (.ref nl),some (.ref l),some (.ref dn),some (.ref fl),some (.int way),some v,none,none]/\Kl l H H'/\H' l=some (.lst [.int a',.int sh,.int ms])/\a<=a'/\a'<=a+2^20/\T1 H' t v/\Ty F g t (.t k)/\dt t<=48)->D.nx σ' H')->XJ (XZ (AQ 4) [] E0 (V8 (tSl (λx lo hi H Q=>rSlL K x lo hi H Q\/rSlT K x lo hi H Q) (tVar 0) (ayZ (tC (V.int 5))) RN) (V8 (tVar 3) (V8 (tOp (λx y H Q=>rIxL K x y H Q\/rIxT K x y H Q\/rIxS x y H Q\/rIxTop w K x y H Q) (tVar 1) (tC (V.int 2))) (V8 (tVar 4) (V8 (tVar 5) (V8 (tC (V.int 4)) PB))))))) (GD 7) D [some (.ref sc),some (.ref po),some (.ref nl),some (.ref l),some (.ref dn),some (.ref fl),some (.int way),none,none,none] HH:=λHH D sm hD=>by
   have Vh:=V0.same sm;refine⟨_,rfl,_,rfl,.inl ⟨sc,_,rfl,Vh.scr.sq,λc hc=> ?_⟩⟩;rw[XB];have tc:=A1 hc (.lst ((ns.drop 5).map V.int));have hcl:c≠l:=λe=>by rw[e,Vh.sp]at hc;cases hc
   refine⟨_,rfl,_,rfl,(ixT (tc _ _ (sm _ _ hpo)) rfl ⟨_,rfl,_,rfl,c,l,dn,fl,_,a,sh,ms,g,m,F,k,wo,4,rfl,(Vh.same tc).gv A2 hcl,by omega,by omega,(hwo.mono (A4 sm)).mono (A4 tc),by omega,by decide,by decide,λt v a' H' h1 h2 h3 h4 h5 h6 h7=>hD _ _ ⟨t,v,a',rfl,(Kl.of (sm.trans tc)).trans h1,h2,h3,by omega,h5,h6,by omega⟩⟩)⟩
  suffices el:_ from⟨_,rfl,(ixT hpo rfl (.inl ⟨rfl,_,rfl,F9 (λc1=>⟨_,rfl,_,_,rfl,.inl ⟨_,SqL.of hfl,rfl⟩,_,_,rfl,rfl,_,rfl,F9 (λc2=>⟨_,rfl,_,_,rfl,rfl,_,rfl,F9 (λc3=>⟨_,rfl,_,rfl,_,rfl,_,rfl,_,rfl,_,rfl,sc,nl,l,dn,fl,ns,ss,a,sh,ms,g,m,F,z,ks,k,.ref po,rfl,V0,by have:(1:Int)<(fus.length:Nat):=of_decide_eq_true c2;omega,ha,hm,λt v a' H' h1 h2 h3 h4 h5 h6 h7=>⟨t,v,a',rfl,h1,h2,h3,h4,h5,h6,h7⟩⟩) (λc3=>el)⟩) (λc2=>ifF nZ el)⟩) (λc1=>ifF nZ el)⟩))⟩
  refine⟨fun σ' H'=>∃(t:Tm) (v:V) (a':Int),σ'=[some (.ref sc),some (.ref po),some (.ref nl),some (.ref l),some (.ref dn),some (.ref fl),some (.int way),some v,none,none]/\Kl l H H'/\H' l=some (.lst [.int a',.int sh,.int ms])/\a<=a'/\a'<=a+2^20/\T1 H' t v/\Ty F g t (.t k)/\dt t<=48, ?_,λ_ _ h=>h⟩;refine⟨_,rfl,(ixT hpo rfl (.inl ⟨rfl,_,rfl,F9 (λc1=> ?_) (λc1=>ifF nZ (el2 _ _ (Same.refl _) λ_ _ h=>h))⟩))⟩;refine⟨_,rfl,(ixT hpo rfl ⟨_,rfl,.inl ⟨qo,_,rfl,SqL.of hqo,λs1 hs1=>⟨K0,λp2 hp2=>⟨K0,λl3 hl3=> ?_⟩⟩⟩⟩)⟩;rw[cnZ]at hp2 hl3⊢;have e1:=A1 hs1 (.lst (us.take 1));have e2:=A1 hp2 (.tup [.str "number"]);have e3:=A1 hl3 (.lst [.ref p2]);have e13:=e1.trans (e2.trans e3);refine YB (hus.imp λ_ _ h=>h.mono (A4 e13)) (SqL.of ((e2.trans e3) _ _ A2)) (SqL.of A2) (.num (e3 _ _ A2)) (λk' hk'=>by have:=hks3 k' hk';omega) λbb hbb=>⟨_,rfl,F9 (λc2=> ?_) (λc2=>ifF nZ (el2 _ _ e13 λ_ _ h=>h))⟩;obtain⟨ks',rfl⟩:=hbb c2;refine⟨_,rfl,_,_,rfl,rfl,_,rfl,F9 (λc3=> ?_) (λc3=>el2 _ _ e13 λ_ _ h=>h)⟩;exact⟨_,rfl,_,rfl,_,rfl,_,rfl,_,rfl,_,rfl,sc,nl,l,dn,fl,ns,ss,a,sh,ms,g,m,F,z,ks',k,.ref po,rfl,V0.same e13,ha,hm,λt v a' H' h1 h2 h3 h4 h5 h6 h7=>⟨t,v,a',rfl,(Kl.of e13).trans h1,h2,h3,h4,h5,h6,by omega⟩⟩
 rintro _ H1 ⟨t,v,a1,rfl,k1,hl1,ha1,ha2,ht,hT,hdt⟩;have V1':=V0.kl k1 hl1 ha1;have m1:=k1.tups V0.sp;refine⟨_,rfl,sc,ns,1,rfl,V1'.scr.sq,by decide,_,_,rfl,rfl,lg (by decide) (by decide), ?_⟩;generalize(E6 ns 1).fdiv 45=x;show S9 _ _ _ [some (.ref sc),some (.ref po),some (.ref nl),some (.ref l),some (.ref dn),some (.ref fl),some (.int way),some v,some (.int x),none] H1;have q1:∀ {HH:Hp},Same H1 HH->Q v HH:=λ{HH} sm=>q t v a1 HH (k1.trans (Kl.of sm)) (sm _ _ hl1) ha1 ha2 (ht.mono (A4 sm)) hT (by omega);refine⟨fun σ' H'=>∃y,σ'=[some (.ref sc),some (.ref po),some (.ref nl),some (.ref l),some (.ref dn),some (.ref fl),some (.int way),some v,some (.int x),y]/\Same H1 H', ?_, ?_⟩
 ·refine⟨_,rfl,(ixT (m1 _ _ hpo) rfl ⟨K0,λp2 hp2=> ?_⟩)⟩;have e2:=A1 hp2 (.tup [.str "number"]);refine CD ((hwo.mono m1).mono (A4 e2)) (.num A2) (by omega) ⟨_,rfl,F9 (λc1=> ?_) (λc1=>ifF nZ ⟨_,rfl,e2⟩)⟩;have ek:k=.num:=of_decide_eq_true c1;refine⟨_,rfl,_,_,rfl,rfl,(by decide:(0:Int)<2),.inl ⟨rfl,_,rfl,F9 (λc2=> ?_) (λc2=>⟨_,rfl,e2⟩)⟩⟩;have V2:=V1'.same e2;refine⟨_,rfl,_,_,rfl,rfl,lg (by decide) (by decide),_,_,rfl,rfl,mr ⟨by decide,by decide⟩,.inl ⟨_,_,rfl,rfl,_,rfl,_,rfl,(ixL V2.nms.1 at0 ⟨_,dn,m,g,y0,.non,rfl,V2.n,by omega,λH3 s3=> ?_,λt' v' H3 s3 ht' hT' hdt'=> ?_⟩)⟩⟩
  ·exact⟨_,rfl,rfl,_,rfl,ifF (by decide) ⟨_,rfl,e2.trans s3⟩⟩
  ·refine⟨_,rfl,rfl,_,rfl,ifT (by cases ht'<;>rfl) ?_⟩;refine⟨_,rfl,_,rfl,C7,λp4 hp4=> ?_⟩;have e4:=A1 hp4 (.tup [.str "do",v',v]);have e24:=e2.trans (s3.trans e4);subst ek;exact q (.do_ t' t) _ a1 _ (k1.trans (Kl.of e24)) (e24 _ _ hl1) ha1 ha2 (.do_ A2 (ht'.mono (A4 e4)) (ht.mono (A4 e24))) (.do_ (hT' F) hT) (by show max (dt t') (dt t)+1<=49;omega)
 rintro _ H2 ⟨y,rfl,s2⟩;exact⟨_,rfl,q1 s2⟩
end
end _G
namespace _G
open PySem _L _B
noncomputable def gz:List Str->List Kd->Cx->Cx
 |z::zs,k::ks,g=>gz zs ks (up g z k)
 |_,_,g=>g
noncomputable abbrev g0:Cx:=λ_=>none
theorem RA:∀(zs:List Str) (ks:List Kd) (g:Cx) (y:Str),gz zs ks g y=((zs.zip ks).reverse.lookup y).or (g y)
 | [],ks,g,y=>by simp[gz]
 |_::_,[],g,y=>by simp[gz]
 |z::zs,k::ks,g,y=>by
  rw[gz,RA zs ks,List.zip_cons_cons,reverse_cons,List.lookup_append,Option.or_assoc];congr 1;unfold up;by_cases c:z=y
  ·subst c;simp[lookup_cons]
  ·have c':(y==z)=false:=by simpa using λe=>c e.symm
   rw[if_neg c,lookup_cons,c'];rfl
theorem YG:∀ {zs:List Str} {ks:List Kd} {g:Cx} {y:Str},y∉zs->gz zs ks g y=g y
 | [],ks,g,y,_=>by cases ks<;>rfl
 |_::_,[],g,y,_=>rfl
 |z::zs,k::ks,g,y,h=>by
  rw[gz,YG (λe=>h (mem_cons_of_mem _ e))];unfold up;rw[if_neg (λe=>h (by rw[e];exact mem_cons_self ..))]
theorem aAZ:∀ {zs:List Str} {ks:List Kd} {g:Cx} {i:Nat} {y:Str} {q:Kd},zs.Nodup->zs[i]? =some y->ks[i]? =some q->gz zs ks g y=some q
 |z::zs,k::ks,g,0,y,q,hn,hy,hq=>by
  cases hy;cases hq;rw[gz,YG (nodup_cons.mp hn).1];unfold up;rw[if_pos rfl]
 |z::zs,k::ks,g,i+1,y,q,hn,hy,hq=>by
  rw[gz];exact aAZ (nodup_cons.mp hn).2 (by simpa using hy) (by simpa using hq)
theorem JU{H:Hp}:∀ {zs:List Str} {ks:List Kd} {us:List V} {kvs:List (Key×V)} {g:Cx},All2 (KA H) ks us->(∀k∈ks,dk k<=8)->(∀z v,R0 kvs (.inr z)=some v->∃k,g z=some k/\KA H k v/\dk k<=8)->
  ∀z v,R0 (L8 kvs (FS zs us)) (.inr z)=some v->∃k,gz zs ks g z=some k/\KA H k v/\dk k<=8
 | [],ks,us,kvs,g,_,_,h,z,v,e=>by
  have e:R0 (L8 kvs []) (.inr z)=some v:=e;have:=h z v e
  rwa [show gz [] ks g=g by cases ks<;>rfl]
 |_::_,_,_,kvs,g,.nil,_,h,z,v,e=>h z v e
 |y::zs,k::ks,u::us,kvs,g,.cons hk hr,hd,h,z,v,e=>by
  have e:R0 (L8 (W9 kvs (.inr y) u) (FS zs us)) (.inr z)=some v:=e;refine JU (g:=up g y k) hr (λq hq=>hd q (mem_cons_of_mem _ hq)) (λz' v' e'=> ?_) z v e;rw[MQ]at e';by_cases c:z'=y
  ·subst c;rw[if_pos rfl]at e';cases e';exact⟨k,by simp[up],hk,hd k (mem_cons_self ..)⟩
  ·rw[if_neg (by intro x;exact c (by injection x))]at e';obtain⟨k',q1,q2⟩:=h z' v' e';exact⟨k',by unfold up;rw[if_neg (λx=>c x.symm)];exact q1,q2⟩
theorem IL:∀(zs:List Str) (us:List V) (kvs:List (Key×V)) (ns:List Str),kvs.map (·.1)=ns.map Sum.inr->∃ns':List Str,(L8 kvs (FS zs us)).map (·.1)=ns'.map Sum.inr/\ns'.length<=ns.length+us.length
 | [],us,kvs,ns,h=>⟨ns,h,le_add_right _ _⟩
 |_::_,[],kvs,ns,h=>⟨ns,h,Nat.le_refl _⟩
 |z::zs,u::us,kvs,ns,h=>by
  obtain⟨n1,h1,l1⟩:=MS kvs ns z u h;obtain⟨n2,h2,l2⟩:=IL zs us (W9 kvs (.inr z) u) n1 h1;exact⟨n2,h2,by simp only[length_cons];omega⟩
theorem ZW{H:Hp}{zs:List Str}{ks:List Kd}{us:List V}{d:Addr}(hk:All2 (KA H) ks us)(hd:∀k∈ks,dk k<=8)(h:H d=some (.dK (L8 [] (FS zs us)))):DAt H us.length (gz zs ks g0) d:=by
 obtain⟨n,h1,h2⟩:=IL zs us [] [] rfl;exact⟨_,n,h,h1,by simpa using h2,JU hk hd λz v e=>by cases e⟩
structure Mfn (F:Fs) (ss:List Str) (d:Dn) (x:Str×List Kd×Kd):Prop where
 name:d.name=x.1
 pars:d.pars=(ss.drop 1).take x.2.1.length
 ty:Ty F (gz (ss.drop 1) x.2.1 g0) d.body (.t x.2.2)
 dt:dt d.body<=49
theorem KK:∀ {D:List Dn} {d:Dn},(D.map (·.name)).Nodup->d∈D->(D.find? λx=>x.name==d.name)=some d
 |e::D,d,hn,hd=>by
  rw[map_cons,nodup_cons]at hn;rcases cZ hd with rfl|hd
  ·simp
  ·have:(e.name==d.name)=false:=by
    simp only[beq_eq_false_iff_ne,ne_eq];intro h;exact hn.1 (h▸List.mem_map_of_mem hd)
   rw[find?_cons,this];exact KK hn.2 hd
theorem HZ:∀ {F:Fs} {z:Str} {y:List Kd×Kd},F.lookup z=some y->(z,y)∈F
 |(z',y')::F,z,y,h=>by
  rw[lookup_cons]at h;by_cases c:z=z'
  ·subst c;simp at h;subst h;exact mem_cons_self ..
  ·have:(z==z')=false:=by simpa using c
   rw[this]at h;exact mem_cons_of_mem _ (HZ h)
theorem bSZ{F:Fs}{ss:List Str}{D D':List Dn}(hl:ss.length=8)(hF:(F.map (·.1)).Nodup)(hs:∀x∈F,x.2.1.length<=4)(h:All2 (Mfn F ss) D F)(hp:D'.Perm D):DTy F D':=by
 refine⟨λz ks k hz=> ?_⟩;have hm:=HZ hz;obtain⟨i,hi⟩:=mem_iff_getElem?.mp hm;obtain⟨d,hd,hM⟩:=h.get hi;have h4:ks.length<=4:=hs _ hm;have names:D.map (·.name)=F.map (·.1):=by
  clear hi hd hz hm hp hF hs h4 hM;generalize hF':F=F0 at h;have h':All2 (λd x=>d.name=x.1) D F0:=h.imp λ_ _ m=>m.name;clear h hF';induction h' with
  |nil=>rfl
  |cons a _ ih=>rw[map_cons,map_cons,a,ih]
 have hdD:d∈D':=hp.mem_iff.mpr (mem_of_getElem? hd);have hn:(D'.map (·.name)).Nodup:=((hp.map _).nodup_iff).mpr (by rw[names];exact hF);have hname:d.name=z:=hM.name;have hpl:d.pars.length=ks.length:=by rw[hM.pars,length_take,length_drop,hl];show min ks.length 7=_;omega
 refine⟨h4,d,_,by rw[<-hname];exact KK hn hdD,hpl,hM.ty,λy q hy=> ?_⟩;have hy:gz (ss.drop 1) ks g0 y=some q:=hy;rw[RA]at hy;have e:d.pars.zip ks=(ss.drop 1).zip ks:=by
  rw[hM.pars];show((ss.drop 1).take ks.length).zip ks=_;rw[List.zip_eq_zip_take_min (l₁:=ss.drop 1) (l₂:=ks),length_drop,hl,show min (8 - 1) ks.length=ks.length by omega,take_of_length_le (Nat.le_refl ks.length)]
 rw[e]
 simpa using hy
end _G
namespace _G
open PySem _L _B
seal PE PT PW PA PS PSs PTs PI _L.PG PGs PO
noncomputable abbrev U5:Stmt:=_B.top 50
noncomputable abbrev CQ:List Str:=["_law_script","_law_most","_law_shift","_law_names_here","_law_number","_law_heads","_law_some_here","_law_spot","_law_program_here","_law_one","_law_body_here","_law_at"]
theorem sc_law_program:FnScope CQ boZ (B3 U5):=fS
section
variable{P:Program}{w:World}{K:FZ}{mg:Str->Option Value}{base:Heap}{f F7 D3 a3Z a7Z:Addr}{fd K4 F5 a5Z aZZ:FuncData}
noncomputable def LI(k:Kd):Prop:=k=.num\/k=.tru\/k=.lst .num\/k=.lst .tru\/k=.lst (.lst .num)
theorem NS{H:Hp}{u:V}(h:KA H .num u):∀n:Nat,All2 (KA H) (List.replicate n Kd.num) (List.replicate n u)
 |0=> .nil
 |n+1=> .cons h (NS h n)
theorem NK{ss:List Str}{F:Fs}{y:List Kd×Kd}(hs:ss.Nodup)(hm:("main":Str)∉ss)(h:∀j x,F[j]? =some x->ss[7 - j]? =some x.1)(hl:F.length<=2):((F++ [(("main":Str),y)]:Fs).map (·.1)).Nodup:=by
 have hin:∀x∈F,x.1≠("main":Str):=λx hx e=>by
  obtain⟨j,hj⟩:=mem_iff_getElem?.mp hx;exact hm (e▸mem_of_getElem? (h j x hj))
 rcases F with _|⟨x,_|⟨x2,_|_⟩⟩
 ·simp
 ·have:=hin x (by simp)
  simpa using this
 ·have h1:=hin x (by simp);have h2:=hin x2 (by simp);have e1:=h 0 x rfl;have e2:=h 1 x2 rfl;have:x.1≠x2.1:=λe=>by
   rw[<-e]at e2;obtain⟨l1,e1⟩:=List.getElem?_eq_some_iff.mp e1;obtain⟨l2,e2⟩:=List.getElem?_eq_some_iff.mp e2;have:=(List.getElem_inj hs).mp (e1.trans e2.symm);omega
  simp[h1,h2,this]
 ·simp at hl
theorem UB(ss:List Str):P3 (ss.map V.str) (some 1) none=(ss.drop 1).map V.str:=by
 have:=ET (ss.map V.str) 1;rw[show((1:Nat):Int)=1 from rfl]at this;rw[this,List.map_drop]
theorem UW(ss:List Str)(n:Nat):P3 (ss.map V.str) (some 1) (some (1+(n:Int)))=((ss.drop 1).take n).map V.str:=by
 have:=XA (ss.map V.str) 1 (n+1);rw[show((1:Nat):Int)=1 from rfl,show((n+1:Nat):Int)=1+(n:Int) by omega,show n+1 - 1=n from rfl]at this;rw[this,List.map_take,List.map_drop]
theorem RH{α β:Type}{R:α->β->Prop}:∀ {xs:List α} {ys:List β},All2 R xs ys->∀n,All2 R (xs.drop n) (ys.drop n)
 |_,_,h,0=>h
 |_,_,.nil,n+1=> .nil
 |_,_,.cons _ h,n+1=>RH h n
theorem SD{α β:Type}{R:α->β->Prop}:∀ {xs:List α} {ys:List β},All2 R xs ys->∀n,All2 R (xs.take n) (ys.take n)
 |_,_,_,0=> .nil
 |_,_,.nil,n+1=> .nil
 |_,_,.cons a h,n+1=> .cons a (SD h n)
theorem RS{α β:Type}{R:α->β->Prop}:∀ {xs:List α} {ys:List β} {x:α},All2 R xs ys->x∈xs->∃y,R x y
 |_,_,_,.cons a h,hx=>by
  rcases cZ hx with rfl|hx
  ·exact⟨_,a⟩
  ·exact RS h hx
theorem JV{z:Str}{y:List Kd×Kd}:∀ {F:Fs},(∀x∈F,x.1≠z)->(F++ [(z,y)]:Fs).lookup z=some y
 | [],_=>by simp
 |(z',y')::F,h=>by
  have h1:=h _ (mem_cons_self ..);have:(z==z')=false:=by simpa using λe:z=z'=>h1 e.symm
  rw[List.cons_append,lookup_cons,this];exact JV λx hx=>h x (mem_cons_of_mem _ hx)
inductive spProgramW (K:FZ) (vs:List V) (H:Hp) (Q:VK):Prop
 |mk:∀(sc:Addr) (ns:List Int) (most:Int),(vs=[.ref sc,.int most])->(ScrAt K H sc ns)->(ns.length<=63)->(0<=most)->(most<=100)->(∀(D:List Dn) (F:Fs) (n:Nat) (km:Kd) (v:V) H',Same H H'->PgA H' D v->DTy F D->D.length<=3->F.lookup ("main":Str)=some (List.replicate n Kd.num,km)->LI km->(∀d∈D,dt d.body<=49/\∃g k,Ty F g d.body (.t k))->Q v H')->spProgramW K vs H Q
noncomputable def KC(K:FZ):Sp:=λvs H Q _=>spProgramW K vs H Q
theorem ok_law_program(F:Fun K "_law_program" "_law_program" U5 f fd)(B:NoL mg)
  (B8:Cn P w K mg base CX0 1 "_law_cell_at" JG (AR K))
  (D2:Cn P w K mg base CX0 2 "_law_names" EL AV)
  (CV:Cn P w K mg base CX0 2 "_law_head" q2L WL)
  (DF:Cn P w K mg base CX0 31 "_law_body" qL9 (XR K)):
  FnOk P w K mg base CX0 32 f fd boZ (KC K):=by
 refine F.ok sc_law_program (λvs H Q E h=> ?_) (λcdv A outer s H vs Q E hr h=> ?_)
 ·obtain⟨sc,ns,most,rfl,_⟩:=h;rfl
 obtain⟨sc,ns,most,rfl,hsc,hn63,hm0,hm1,q⟩:=h;have nd:=sc_law_program.nd;have hu:=hr.units0;refine⟨_,(A6 (sS 2 nd (cC B8 hr (A0 (pv 0) (A0 A3 A5))))
   (A6 (BS (i:=3) nd rfl (Or.inr rfl) (cC D2 hr (A0 (pv 2) A5)))
   (A6 (sS 4 nd (A8 (A0 A7 A5)))
   (A6 (N2 (i:=5) nd rfl rfl (cS (N:=CQ) (sc:=B3 U5) (caps:=[0,3]) (ns:=["_law_script","_law_names_here"])) rfl rfl rfl (O6 rfl B.range_ (A0 (B5 C3 (cC B8 hr (A0 (pv 0) (A0 A3 A5))) A3) A5)) (λ_ _ _ _ _=>P5) (λ_ _ _ _ _=>(cC CV hr (A0 (cC B8 hr (A0 (pv 1) (A0 (B5 AC A3 (pv 0)) A5))) (A0 (ixE K w (pv 2) (B5 T4 A3 (pv 0))) A5)))))
   (A6 (sS 6 nd (K1 (A0 (pv 4) (A0 (pv 4) (A0 (A8 (A0 A7 A5)) (A0 (A8 (A0 A7 (A0 (pv 4) A5))) (A0 (A8 (A0 A7 (A0 (A8 (A0 A7 A5)) A5))) (A0 (A8 (A0 A7 (A0 (A8 (A0 A7 (A0 (pv 4) A5))) A5))) A5))))))))
   (A6 (CI (aP K (pv 5) (A8 (A0 A7 (A0 (B5 deZ (K1 (A0 (pv 4) A5)) (B5 C3 (cC B8 hr (A0 (pv 0) (A0 A3 A5))) A3)) (A0 (ixE K w (pv 6) (B5 C3 (B5 C0 (cC B8 hr (A0 (pv 0) (A0 A3 A5))) A3) A3)) A5))))))
   (A6 (sS 7 nd (K1 (A0 A3 (A0 (pv 2) (A0 (pv 1) A5)))))
   (A6 (sS 8 nd (K1 A5))
   (A6 (D7 (FI PassesOwn.never rfl (W8 (K:=K) (pv 5)) (gN 9 nd) (A6 (sS 10 nd (cC DF hr (A0 (pv 0) (A0 (pv 9) (A0 (pv 3) (A0 (pv 7) (A0 (PX (K:=K) rfl B.zip_ rfl B.dict_ rfl (A0 (C2 (kSl (K:=K)) (pv 3) (C6 A3) C9) (A0 (ixE K w (pv 9) A3) A5))) (A0 (pv 5) A5))))))))
   (A6 (CI (aP K (pv 8) (A8 (A0 A7 (A0 (ixE K w (pv 9) A3) (A0 (F6 (AT (K:=K)) rfl B.tuple_ M6 (A0 (C2 (kSl (K:=K)) (pv 3) (C6 A3) (C6 (B5 AC A3 (kL K B.len_ (ixE K w (pv 9) A3))))) A5)) (A0 (pv 10) A5)))))))
   (A9 (Z7 (B5 AC (ixE K w (pv 7) A3) (pv 1)) (DU (pv 7) A3 AF)))))))
   (A6 (sS 11 nd (B5 C3 (B5 C0 (cC B8 hr (A0 (pv 0) (A0 A3 A5))) A3) (kL K B.len_ (pv 8))))
   (A9 (B4 (F6 (AT (K:=K)) rfl B.tuple_ M6 (A0 (B5 AC (C2 (kSl (K:=K)) (pv 8) (C6 (pv 11)) C9) (C2 (kSl (K:=K)) (pv 8) C9 (C6 (pv 11)))) A5)))))))))))))), ?_⟩
 refine stp λNx eN=> ?_;refine⟨_,rfl,sc,ns,0,rfl,hsc.sq,by decide, ?_⟩;generalize E6 ns 0=sh;show Nx _ _;subst eN;refine stp λNx eN=> ?_;refine⟨_,rfl,sh,rfl,λnl ss H1 s1 hN=> ?_⟩;show Nx _ _;subst eN;refine stp λNx eN=> ?_;refine⟨K0,λp0 hp0=> ?_⟩;obtain⟨hn1,hn2,hn3,hn4⟩:=hN;have t0:=A1 hp0 (.tup [.str "number"]);have s2:=s1.trans t0;have hN2:=t0 _ _ hn1;have hnum:(upd H1 p0 (.tup [.str "number"])) p0=some (.tup [.str "number"]):=A2;show Nx _ _;subst eN;show S9 _ _ _ [some (.ref sc),some (.int most),some (.int sh),some (.ref nl),some (.ref p0),none,none,none,none,none,none,none] (upd H1 p0 (.tup [.str "number"]));generalize upd H1 p0 (.tup [.str "number"])=H2 at s2 hN2 hnum⊢;have sc2:∀ {HH:Hp},Same H HH->ScrAt K HH sc ns:=λ{HH} sm=>hsc.imp (λ⟨o,h⟩=>⟨o,sm _ _ h⟩) id;have g1:=Int.emod_nonneg (E6 ns 1) (by decide:(3:Int)≠0);have g2:=Int.emod_lt_of_pos (E6 ns 1) (by decide:(0:Int)<3);obtain⟨n,en,hn⟩:∃n:Nat,E6 ns 1%3=(n:Int)/\n<=2:=⟨(E6 ns 1%3).toNat,by omega,by omega⟩;refine stp λNx eN=> ?_;refine⟨_,rfl,sc,ns,1,rfl,(sc2 s2).sq,by decide,_,_,rfl,rfl,(by decide:(0:Int)<3),_,rfl,by omega,by omega, ?_⟩;rw[en];refine P1 (n:=n) (λi ys H'=>Same H2 H'/\∃F:Fs,All2 (FhA H') F ys/\ys.length=i/\(∀x∈F,dk x.2.2<=3/\(∀k∈x.2.1,dk k<=3)/\x.2.1.length<=4)/\∀j x,F[j]? =some x->ss[7 - j]? =some x.1) ⟨Same.refl _,[],.nil,rfl,(λx hx=>nomatch hx),λj x hx=>by simp at hx⟩ ?_ ?_ ?_
 ·rintro i ys H' hi ⟨_,F,_,hyl,_⟩;rw[hyl];exact Nat.le_trans hi (Nat.le_trans hn (by decide))
 ·rintro i ys H' hi ⟨sm,F,hF,hyl,hb,hnm⟩;refine T3 ?_;obtain⟨z,hz⟩:∃z,ss[7 - i]? =some z:=⟨_,List.getElem?_eq_getElem (by omega)⟩;have hat:atI (ss.map V.str) (((7 - i:Nat)):Int)=some (.str z):=D5 (by rw[getElem?_map,hz];rfl);rw[show(((7 - i:Nat)):Int)=7 - (0+(i:Int)) by omega]at hat;refine⟨_,rfl,_,rfl,.inl ⟨_,_,rfl,rfl,sc,ns,_,rfl,(sc2 (s2.trans sm)).sq,by omega,_,rfl,_,rfl,_,_,rfl,rfl,(ixL (sm _ _ hN2) hat ⟨_,z,rfl,λks k v H4 s4 hf h1 h2 h3=>⟨sm.trans s4,F++ [(z,ks,k)],(hF.imp λ_ _ h=>h.same s4).app (.cons hf .nil),by rw[length_append,hyl];rfl,λx hx=> ?_,λj x hx=> ?_⟩⟩)⟩⟩
  ·rcases mem_append.mp hx with hx|hx
   ·exact hb x hx
   ·rw[sZ hx];exact⟨h3,h2,h1⟩
  ·have hFl:F.length=i:=by rw[hF.len,hyl]
   rw[List.getElem?_append]at hx;split at hx
   ·exact hnm j x hx
   ·have:j=i:=by
     have:=(List.getElem?_eq_some_iff.mp hx).1;simp at this;omega
    subst this;rw[hFl,Nat.sub_self]at hx;cases hx;exact hz
 rintro ys H3 ⟨sm,F0,hF0,hyl,hb,hnm⟩ fl hfl;have tf:=A1 hfl (.lst ys);have tf0:=tf;have z6:(6:Nat)<=sizeLine:=by decide
 have s3:=s2.trans (sm.trans tf);have hN3:=(sm.trans tf) _ _ hN2;have hnum3:=(sm.trans tf) _ _ hnum;have hF3:=hF0.imp λ_ _ h=>h.same tf;have hfl3:(upd H3 fl (.lst ys)) fl=some (.lst ys):=A2;show Nx _ _;subst eN;show S9 _ _ _ [some (.ref sc),some (.int most),some (.int sh),some (.ref nl),some (.ref p0),some (.ref fl),none,none,none,none,none,none] (upd H3 fl (.lst ys));generalize upd H3 fl (.lst ys)=H4 at s3 hN3 hnum3 hF3 hfl3 tf0⊢;refine stp λNx eN=> ?_;refine⟨_,rfl,_,rfl,K0,λa1 h1=>⟨_,rfl,C5,λa2 h2=>⟨K0,λa3 h3=>⟨C5,λa4 h4=>⟨_,rfl,C5,λa5 h5=>⟨C5,λa6 h6=>⟨z6,λl1 hl1=> ?_⟩⟩⟩⟩⟩⟩⟩;have t1:=A1 h1 (.tup [.str "truth"]);have t2:=A1 h2 (.tup [.str "list",.ref p0]);have t3:=A1 h3 (.tup [.str "truth"]);have t4:=A1 h4 (.tup [.str "list",.ref a3]);have t5:=A1 h5 (.tup [.str "list",.ref p0]);have t6:=A1 h6 (.tup [.str "list",.ref a5]);have tl:=A1 hl1 (.lst [.ref p0,.ref p0,.ref a1,.ref a2,.ref a4,.ref a6]);have e6:=t6.trans tl;have e5:=t5.trans e6;have e4:=t4.trans e5;have e3:=t3.trans e4;have e2:=t2.trans e3;have e1:=t1.trans e2;have n0:=KA.num (e1 _ _ hnum3);have n1:=KA.tru (e2 _ _ A2);have n2:=KA.lst (e3 _ _ A2) n0;have n3:=KA.tru (e4 _ _ A2);have n4:=KA.lst (e5 _ _ A2) n3;have n5:=KA.lst (e6 _ _ A2) n0;have n6:=KA.lst (tl _ _ A2) n5;have s5:=s3.trans e1;have s35:Same H3 _:=tf0.trans e1;have hN5:=e1 _ _ hN3;have hfl5:=e1 _ _ hfl3;have hF5:=hF3.imp λ_ _ h=>h.same e1;have hl5:(upd (upd (upd (upd (upd (upd (upd H4 a1 (.tup [.str "truth"])) a2 (.tup [.str "list",.ref p0])) a3 (.tup [.str "truth"])) a4 (.tup [.str "list",.ref a3])) a5 (.tup [.str "list",.ref p0])) a6 (.tup [.str "list",.ref a5])) l1 (.lst [.ref p0,.ref p0,.ref a1,.ref a2,.ref a4,.ref a6])) l1=some (.lst [.ref p0,.ref p0,.ref a1,.ref a2,.ref a4,.ref a6]):=A2;show Nx _ _;subst eN;show S9 _ _ _ [some (.ref sc),some (.int most),some (.int sh),some (.ref nl),some (.ref p0),some (.ref fl),some (.ref l1),none,none,none,none,none] (upd (upd (upd (upd (upd (upd (upd H4 a1 (.tup [.str "truth"])) a2 (.tup [.str "list",.ref p0])) a3 (.tup [.str "truth"])) a4 (.tup [.str "list",.ref a3])) a5 (.tup [.str "list",.ref p0])) a6 (.tup [.str "list",.ref a5])) l1 (.lst [.ref p0,.ref p0,.ref a1,.ref a2,.ref a4,.ref a6]));generalize upd (upd (upd (upd (upd (upd (upd H4 a1 (.tup [.str "truth"])) a2 (.tup [.str "list",.ref p0])) a3 (.tup [.str "truth"])) a4 (.tup [.str "list",.ref a3])) a5 (.tup [.str "list",.ref p0])) a6 (.tup [.str "list",.ref a5])) l1 (.lst [.ref p0,.ref p0,.ref a1,.ref a2,.ref a4,.ref a6])=H5 at n0 n1 n2 n4 n6 s5 s35 hN5 hfl5 hF5 hl5⊢;clear t1 t2 t3 t4 t5 t6 tl e1 e2 e3 e4 e5 e6 n3 n5 h1 h2 h3 h4 h5 h6 hl1 hfl3 hF3 hnum3 hN3 s3 tf tf0;have g3:=Int.emod_nonneg (E6 ns 2) (by decide:(5:Int)≠0);have g4:=Int.emod_lt_of_pos (E6 ns 2) (by decide:(0:Int)<5);obtain⟨n2',en2,hn2'⟩:∃n:Nat,E6 ns 2%5=(n:Int)/\n<=4:=⟨(E6 ns 2%5).toNat,by omega,by omega⟩;refine stp λNx eN=> ?_;refine⟨_,rfl,.inl ⟨rfl,_,SqL.of hfl5⟩,_,rfl,K0,λl2 hl2=> ?_⟩;have u1:=A1 hl2 (.lst [.ref p0]);refine⟨_,rfl,sc,ns,2,rfl,(sc2 (s5.trans u1)).sq,by decide,_,_,rfl,rfl,(by decide:(0:Int)<5), ?_⟩;rw[en2];have zz:(4:Nat)<=sizeLine:=by decide
 refine .inr (.inr ⟨l2,_,[.ref p0],rfl,rfl,A2,by omega,by omega,(by simp only[length_cons,length_nil,Int.toNat_natCast];omega),λl3 hl3=> ?_⟩);have erep:(List.replicate (n2':Int).toNat [V.ref p0]).flatten=List.replicate n2' (V.ref p0):=by
  rw[Int.toNat_natCast,List.flatten_replicate_singleton]
 rw[erep];have u2:=A1 hl3 (.lst (List.replicate n2' (V.ref p0)));have u12:=u1.trans u2;obtain⟨km,kv,hkat,hkm,hkp,hk3⟩:∃(km:Kd) (kv:V),atI [V.ref p0,.ref p0,.ref a1,.ref a2,.ref a4,.ref a6] ((E6 ns 1).fdiv 3%6)=some kv/\KA H5 km kv/\LI km/\dk km<=3:=by
  have k1:=Int.emod_nonneg ((E6 ns 1).fdiv 3) (by decide:(6:Int)≠0);have k2:=Int.emod_lt_of_pos ((E6 ns 1).fdiv 3) (by decide:(0:Int)<6);have h:(E6 ns 1).fdiv 3%6=0\/(E6 ns 1).fdiv 3%6=1\/(E6 ns 1).fdiv 3%6=2\/(E6 ns 1).fdiv 3%6=3\/(E6 ns 1).fdiv 3%6=4\/(E6 ns 1).fdiv 3%6=5:=by omega
  rcases h with h|h|h|h|h|h<;>rw[h]
  ·exact⟨_,_,rfl,n0,.inl rfl,by decide⟩
  ·exact⟨_,_,rfl,n0,.inl rfl,by decide⟩
  ·exact⟨_,_,rfl,n1,.inr (.inl rfl),by decide⟩
  ·exact⟨_,_,rfl,n2,.inr (.inr (.inl rfl)),by decide⟩
  ·exact⟨_,_,rfl,n4,.inr (.inr (.inr (.inl rfl))),by decide⟩
  ·exact⟨_,_,rfl,n6,.inr (.inr (.inr (.inr rfl))),by decide⟩
 refine⟨_,rfl,_,rfl,sc,ns,1,rfl,(sc2 (s5.trans u12)).sq,by decide,_,_,rfl,rfl,lg (by decide) (by decide),_,_,rfl,rfl,(by decide:(0:Int)<6),(ixL (u12 _ _ hl5) hkat ⟨C7,λp7 hp7=> ?_⟩)⟩;have u3:=A1 hp7 (.tup [.str "main",.ref l3,kv]);have u13:=u12.trans u3;have hyle:ys.length<=2:=by omega
 refine⟨fl,_,.ref p7,rfl,rfl,u13 _ _ hfl5,(by have:(3:Nat)<=sizeLine:=by decide
                                              omega), ?_⟩
 have hl36:Same H3 (upd (upd (upd (upd H5 l2 (.lst [.ref p0])) l3 (.lst (List.replicate n2' (V.ref p0)))) p7 (.tup [.str "main",.ref l3,kv])) fl (.lst (ys++ [.ref p7]))):=λb o hb=>by
  rw[B9 (C1 hb hfl)];exact(s35.trans u13) b o hb
 have nfl:∀ {b:Addr} {o:HO},H5 b=some o->b≠fl->(upd (upd (upd (upd H5 l2 (.lst [.ref p0])) l3 (.lst (List.replicate n2' (V.ref p0)))) p7 (.tup [.str "main",.ref l3,kv])) fl (.lst (ys++ [.ref p7]))) b=some o:=λ{b o} hb nb=>by
  rw[B9 nb];exact u13 b o hb
 have m56:Mo H5 (upd (upd (upd (upd H5 l2 (.lst [.ref p0])) l3 (.lst (List.replicate n2' (V.ref p0)))) p7 (.tup [.str "main",.ref l3,kv])) fl (.lst (ys++ [.ref p7]))):=λb xs hb=>nfl hb (BL hb hfl5 (by intro z;cases z));have n7f:p7≠fl:=λe=>by rw[e,u12 _ _ hfl5]at hp7;cases hp7
 have n3f:l3≠fl:=λe=>by rw[e,u1 _ _ hfl5]at hl3;cases hl3
 have hmain:FhA (upd (upd (upd (upd H5 l2 (.lst [.ref p0])) l3 (.lst (List.replicate n2' (V.ref p0)))) p7 (.tup [.str "main",.ref l3,kv])) fl (.lst (ys++ [.ref p7]))) ("main",List.replicate n2' Kd.num,km) (.ref p7):=by
  refine⟨p7,l3,List.replicate n2' (V.ref p0),kv,rfl,by rw[B9 n7f];exact A2,by rw[B9 n3f];exact u3 _ _ A2, ?_,hkm.mono m56⟩;exact NS (n0.mono m56) n2'
 have hF6:All2 (FhA _) (F0++ [(("main":Str),List.replicate n2' Kd.num,km)]:Fs) (ys++ [.ref p7]):=(hF0.imp λ_ _ h=>h.same hl36).app (.cons hmain .nil);have hfl6:= @A2 (upd (upd (upd H5 l2 (.lst [.ref p0])) l3 (.lst (List.replicate n2' (V.ref p0)))) p7 (.tup [.str "main",.ref l3,kv])) fl (.lst (ys++ [.ref p7]));have s6:Same H _:=(s2.trans sm).trans hl36;have hN6:NmsAt _ nl ss:=⟨hl36 _ _ (sm _ _ hN2),hn2,hn3,hn4⟩;show Nx _ _;subst eN;show S9 _ _ _ [some (.ref sc),some (.int most),some (.int sh),some (.ref nl),some (.ref p0),some (.ref fl),some (.ref l1),none,none,none,none,none] (upd (upd (upd (upd H5 l2 (.lst [.ref p0])) l3 (.lst (List.replicate n2' (V.ref p0)))) p7 (.tup [.str "main",.ref l3,kv])) fl (.lst (ys++ [.ref p7])));generalize upd (upd (upd (upd H5 l2 (.lst [.ref p0])) l3 (.lst (List.replicate n2' (V.ref p0)))) p7 (.tup [.str "main",.ref l3,kv])) fl (.lst (ys++ [.ref p7]))=H6 at hF6 hfl6 s6 hN6⊢;refine stp λNx eN=> ?_;refine⟨_,rfl,_,rfl,C7,λl hl=> ?_⟩;show Nx _ _;subst eN;refine stp λNx eN=> ?_;refine⟨zero_le _,λpl hpl=> ?_⟩;have npl:pl≠l:=λe=>by rw[e,A2]at hpl;cases hpl
 have hpl6:H6 pl=none:=by rw[<-hpl,B9 npl]
 have hF0l:F0.length=n:=by rw[hF0.len,hyl]
 obtain⟨Ff,hFf⟩:∃Ff:Fs,Ff=F0++ [(("main":Str),List.replicate n2' Kd.num,km)]:=⟨_,rfl⟩;rw[<-hFf]at hF6;have hFl:Ff.length=n+1:=by rw[hFf,length_append,hF0l];rfl
 have hsm:∀x∈Ff,dk x.2.2<=3/\(∀k∈x.2.1,dk k<=3)/\x.2.1.length<=4:=λx hx=>by
  rw[hFf]at hx;rcases mem_append.mp hx with hx|hx
  ·exact hb x hx
  ·rw[sZ hx];exact⟨hk3,λk hk=>by rw[List.eq_of_mem_replicate hk];decide,by show(List.replicate n2' Kd.num).length<=4;rw[length_replicate];exact hn2'⟩
 have hnd:(Ff.map (·.1)).Nodup:=by
  rw[hFf];exact NK hn3 hn4 hnm (by omega)
 have hN6':∀ {a ms:Int} (HH:Hp),Same H6 HH->HH l=some (.lst [.int a,.int sh,.int ms])->NmsAt HH nl ss:=λHH sm _=>⟨sm _ _ hN6.1,hn2,hn3,hn4⟩;show Nx _ _;subst eN;refine stp λNx eN=> ?_;refine⟨fun σ' H'=>∃(y1 y2:Option V) (a ms:Int) (D:List Dn) (dus:List V),σ'=[some (.ref sc),some (.int most),some (.int sh),some (.ref nl),some (.ref p0),some (.ref fl),some (.ref l1),some (.ref l),some (.ref pl),y1,y2,none]/\Same H6 H'/\H' pl=some (.lst dus)/\All2 (DnA H') D dus/\All2 (Mfn Ff ss) D Ff, ?_, ?_⟩
 ·refine⟨_,rfl,fl,rfl,⟨_,SqL.of (A1 hpl _ _ _ (A1 hl _ _ _ hfl6))⟩,MJ (xs:=ys++ [.ref p7]) (λi σ' H'=>∃(y1 y2:Option V) (a ms:Int) (D:List Dn) (dus:List V),σ'=[some (.ref sc),some (.int most),some (.int sh),some (.ref nl),some (.ref p0),some (.ref fl),some (.ref l1),some (.ref l),some (.ref pl),y1,y2,none]/\Same H6 H'/\H' l=some (.lst [.int a,.int sh,.int ms])/\0<=a/\a<=(i:Int)*2^20/\H' pl=some (.lst dus)/\All2 (DnA H') D dus/\All2 (Mfn Ff ss) D (Ff.take i)) ⟨_,_,0,most,[],[],rfl,(A1 hl _).trans (A1 hpl _),A1 hpl _ _ _ A2,by decide,by decide,A2,.nil,.nil⟩ ?_ ?_ ?_⟩
  ·rintro i σ' H' hi ⟨y1,y2,a,ms,D,dus,rfl,sm,_⟩;exact SqL.of (sm _ _ hfl6)
  ·rintro i x σ' H' hx ⟨y1,y2,a,ms,D,dus,rfl,sm,hl7,ha0,ha1,hp7',hD,hM⟩;obtain⟨⟨z,ks,k⟩,hfi,hFh⟩:=hF6.get hx;have hil:i<n+1:=by rw[<-hFl];exact(List.getElem?_eq_some_iff.mp hfi).1
   have hmem:=mem_of_getElem? hfi;obtain⟨b1,b2,b3⟩:=hsm _ hmem;have hone:FhA H' (z,ks,k) x:=hFh.same sm;obtain⟨po,qo,us,wo,rfl,hpo,hqo,hus,hwo⟩:=hone;have husl:ks.length=us.length:=hus.len;have hks4:ks.length<=4:=b3;refine⟨_,rfl,_,rfl,_,rfl,_,rfl,_,rfl,_,rfl,.inl ⟨nl,_,rfl,SqL.of (sm _ _ hN6.1),λn1 hn1=> ?_⟩⟩;rw[UB];have v1:=A1 hn1 (.lst ((ss.drop 1).map V.str));refine⟨_,rfl,(ixT (v1 _ _ hpo) rfl ⟨n1,qo,ss.drop 1,us,rfl,SqL.of A2,SqL.of (v1 _ _ hqo),by rw[length_drop,hn2];decide,λd hd=> ?_⟩)⟩;have v2:=A1 hd (.dK (L8 [] (FS (ss.drop 1) us)));have v12:=v1.trans v2;have s7:=sm.trans v12;have hB:Bv K (upd (upd H' n1 (.lst ((ss.drop 1).map V.str))) d (.dK (L8 [] (FS (ss.drop 1) us)))) sc nl l d fl ns ss a sh ms (gz (ss.drop 1) ks g0) us.length Ff z ks k (.ref po):=by
    refine⟨sc2 (s6.trans s7),hn63,⟨s7 _ _ hN6.1,hn2,hn3,hn4⟩,v12 _ _ hl7,ha0,ZW (hus.imp λ_ _ h=>h.mono (A4 v12)) (λk hk=>Nat.le_trans (b2 k hk) (by decide)) A2,⟨⟨_,s7 _ _ hfl6,hF6.imp λ_ _ h=>h.same s7⟩,hnd,by omega,hsm⟩,hFh.same s7,hmem,λj q hq=> ?_⟩;have hjl:=(List.getElem?_eq_some_iff.mp hq).1;obtain⟨y,hy⟩:∃y,ss[j+1]? =some y:=⟨_,List.getElem?_eq_getElem (by omega)⟩;exact⟨y,hy,aAZ (i:=j) (hn3.sublist (List.drop_sublist 1 ss)) (by rw[List.getElem?_drop,Nat.add_comm];exact hy) hq⟩
   refine⟨_,rfl,sc,nl,l,d,fl,ns,ss,a,sh,ms,gz (ss.drop 1) ks g0,us.length,Ff,z,ks,k,.ref po,rfl,hB,by omega,by omega,λt v a' H8 k8 hl8 ha2 ha3 ht hT hdt=> ?_⟩;have k78:Kl l H' H8:=(Kl.of v12).trans k8;have hpo8:=k78 _ _ hpo (BL hpo hl7 (by intro z;cases z));have hqo8:=k78 _ _ hqo (BZ hl7 hqo hus λ_ _=>LP);have hpl8:=k78 _ _ hp7' npl;have m8:=k78.tups hl7;have hN8:=(hN6' _ sm hl7).kl k78 hl7;have hnl8:=hN8.1;have hD8:=hD.imp λ_ _ h=>h.mono m8;have z50:(50:Nat)<=sizeLine:=by decide
   refine⟨_,rfl,.inl ⟨rfl,_,SqL.of hpl8⟩,_,rfl,(ixT hpo8 rfl ⟨_,rfl,_,rfl,_,rfl,(ixT hpo8 rfl ⟨_,_,rfl,.inl ⟨_,SqL.of hqo8,rfl⟩,.inl ⟨_,_,rfl,rfl,_,rfl,.inl ⟨nl,_,rfl,SqL.of hnl8,λn2 hn2=>⟨n2,_,rfl,.inl ⟨SqL.of A2,λq2 hq2=>⟨_,rfl,P2,λpd hpd=> ?_⟩⟩⟩⟩⟩⟩)⟩)⟩;rw[UW]at hq2 hpd⊢;have w1:=A1 hn2 (.lst (((ss.drop 1).take us.length).map V.str));have w2:=A1 hq2 (.tup (((ss.drop 1).take us.length).map V.str));have w3:=A1 hpd (.tup [.str "def",.str z,.ref q2,v]);have w13:=w1.trans (w2.trans w3);have hDl:D.length<=3:=by rw[hM.len,length_take];omega
   have hdl:dus.length<=3:=by rw[<-hD.len];exact hDl
   refine⟨pl,_,.ref pd,rfl,rfl,w13 _ _ hpl8,lt_of_le_of_lt hdl (lt_of_lt_of_le (by decide) z50), ?_⟩;have hl12:∀o,(upd (upd (upd (upd H8 n2 (.lst (((ss.drop 1).take us.length).map V.str))) q2 (.tup (((ss.drop 1).take us.length).map V.str))) pd (.tup [.str "def",.str z,.ref q2,v])) pl o) l=some (.lst [.int a',.int sh,.int ms]):=λo=>by
    rw[B9 (Ne.symm npl)];exact w13 _ _ hl8
   refine⟨_,rfl,(ixL (hl12 _) rfl ⟨_,rfl,.inl ⟨_,_,rfl,rfl,_,rfl,⟨l,_,2,2,rfl,rfl,hl12 _,rfl, ?_⟩⟩⟩)⟩;have kk:∀(o o':HO),Same H6 (upd (upd (upd (upd (upd H8 n2 (.lst (((ss.drop 1).take us.length).map V.str))) q2 (.tup (((ss.drop 1).take us.length).map V.str))) pd (.tup [.str "def",.str z,.ref q2,v])) pl o) l o'):=λo o' b ob hb=>by
    have nb:b≠l:=λe=>by rw[e,hl]at hb;cases hb
    rw[B9 nb,B9 (λe=>by rw[e,hpl6]at hb;cases hb)];exact w13 _ _ (k78 _ _ (sm _ _ hb) nb)
   have mm:Mo (upd (upd (upd H8 n2 (.lst (((ss.drop 1).take us.length).map V.str))) q2 (.tup (((ss.drop 1).take us.length).map V.str))) pd (.tup [.str "def",.str z,.ref q2,v])) (upd (upd (upd (upd (upd H8 n2 (.lst (((ss.drop 1).take us.length).map V.str))) q2 (.tup (((ss.drop 1).take us.length).map V.str))) pd (.tup [.str "def",.str z,.ref q2,v])) pl (.lst (dus++ [.ref pd]))) l (.lst ([V.int a',.int sh,.int ms].set 2 (.int (a'+most))))):=λb xs hb=>by
    rw[B9 (BL hb (w13 _ _ hl8) (by intro z;cases z)),B9 (BL hb (w13 _ _ hpl8) (by intro z;cases z))];exact hb
   refine⟨_,_,a',a'+most,D++ [⟨z,(ss.drop 1).take ks.length,t⟩],dus++ [.ref pd],rfl,kk _ _,A2,by omega,by rw[show((i+1:Nat):Int)=(i:Int)+1 from rfl,Int.add_mul];omega,by rw[B9 npl];exact A2,(hD8.imp λ_ _ h=>(h.mono (A4 w13)).mono mm).app (.cons (DnA.mono mm ⟨pd,q2,v,rfl,A2,by rw[husl];exact w3 _ _ A2,ht.mono (A4 w13)⟩) .nil), ?_⟩;rw[List.take_succ,hfi];exact hM.app (.cons ⟨rfl,rfl,hT,hdt⟩ .nil)
  ·rintro σ' H' ⟨y1,y2,a,ms,D,dus,rfl,sm,hl7,ha0,ha1,hp7',hD,hM⟩;refine⟨y1,y2,a,ms,D,dus,rfl,sm,hp7',hD, ?_⟩
   rwa [<-hF6.len,take_length]at hM
 rintro _ H9 ⟨y1,y2,a,ms,D,dus,rfl,sm9,hpl9,hD,hM⟩;show Nx _ _;subst eN;have hDl:D.length=n+1:=by rw[hM.len,hFl]
 have hdl:dus.length=n+1:=by rw[<-hD.len];exact hDl
 have s9:=s6.trans sm9;have at0:=Int.emod_nonneg ((E6 ns 2).fdiv 5) (by omega:((dus.length:Nat):Int)≠0);have at1:=Int.emod_lt_of_pos ((E6 ns 2).fdiv 5) (by omega:0<((dus.length:Nat):Int));obtain⟨at',eat⟩:∃at':Nat,(E6 ns 2).fdiv 5%((dus.length:Nat):Int)=(at':Int):=⟨((E6 ns 2).fdiv 5%((dus.length:Nat):Int)).toNat,by omega⟩;refine stp λNx eN=> ?_;refine⟨_,rfl,sc,ns,2,rfl,(sc2 s9).sq,by decide,_,_,rfl,rfl,lg (by decide) (by decide),_,rfl,_,_,rfl,.inl ⟨_,SqL.of hpl9,rfl⟩,_,_,rfl,rfl,(by omega:0<((dus.length:Nat):Int)), ?_⟩;rw[eat];show Nx _ _;subst eN;refine⟨_,rfl,_,rfl,_,rfl,.inl ⟨pl,_,rfl,SqL.of hpl9,λc1 hc1=> ?_⟩⟩;rw[ET];have x1:=A1 hc1 (.lst (dus.drop at'));refine⟨_,rfl,_,rfl,_,rfl,.inl ⟨pl,_,rfl,SqL.of (x1 _ _ hpl9),λc2 hc2=> ?_⟩⟩;rw[PK];have x2:=A1 hc2 (.lst (dus.take at'));have x12:=x1.trans x2;have hlen:(dus.drop at'++dus.take at').length<=3:=by rw[length_append,length_drop,length_take];omega
 refine .inr (.inr ⟨c1,c2,_,_,rfl,rfl,x2 _ _ A2,A2,Nat.le_trans (by rw[<-length_append];exact hlen) C7,λc3 hc3=> ?_⟩);have x3:=A1 hc3 (.lst (dus.drop at'++dus.take at'));refine⟨c3,_,rfl,.inl ⟨SqL.of A2,λr hr=> ?_⟩⟩;have x4:=A1 hr (.tup (dus.drop at'++dus.take at'));have x14:=x12.trans (x3.trans x4);have hD':=hD.imp λ_ _ h=>h.mono (A4 x14);have hperm:(D.drop at'++D.take at').Perm D:=List.perm_append_comm.trans (by rw[List.take_append_drop]);refine q (D.drop at'++D.take at') Ff n2' km _ _ (s9.trans x14) ⟨r,_,rfl,A2,(RH hD' at').app (SD hD' at')⟩ (bSZ hn2 hnd (λx hx=>(hsm x hx).2.2) hM hperm) (by rw[hperm.length_eq];omega) ?_ hkp λd hd=> ?_
 ·rw[hFf];exact JV λx hx e=>by
   obtain⟨j,hj⟩:=mem_iff_getElem?.mp hx;exact hn4 (e▸mem_of_getElem? (hnm j x hj))
 ·obtain⟨x,hx⟩:=RS hM (hperm.mem_iff.mp hd);exact⟨hx.dt,_,_,hx.ty⟩
end
noncomputable abbrev W2:Stmt:=_B.top 51
noncomputable abbrev DS:Stmt:=_B.top 52
noncomputable abbrev GI:List Str:=["_law_value"]
theorem sc_law_plain:FnScope GI PH (B3 W2):=fS
noncomputable abbrev QA:List Str:=["_law_state","_law_pile","_law_most","_law_term","_law_bound"]
theorem sc_law_into:FnScope QA aaZ (B3 DS):=fS
noncomputable def dv:Vl->Nat
 | .lst r=>dv r+1
 | .cons a r=>max (dv a) (dv r)
 |_=>0
theorem XS:∀ {r x:Vl},x∈GY r->dv x<=dv r
 | .cons a r,x,h=>by
  rcases cZ h with rfl|h
  ·exact le_max_left _ _
  ·exact Nat.le_trans (XS h) (le_max_right _ _)
theorem WC:∀ {r x:Vl},x∈GY r->sz2 false x<=sz2 true r
 | .cons a r,x,h=>by
  show _<=sz2 false a+sz2 true r;rcases cZ h with rfl|h
  ·omega
  ·have:=WC h;omega
theorem bQZ(x:Vl):1<=sz2 false x:=by cases x<;>simp[sz2]
theorem YW:∀r:Vl,(GY r).length<=sz2 true r
 | .cons a r=>by
  show(GY r).length+1<=sz2 false a+sz2 true r;have:=YW r;have:=bQZ a;omega
 | .int _| .bl _| .lst _| .fn _ _ _| .nil| .bind _ _ _=>zero_le _
theorem WM{H:Hp}:∀ {r:Vl} {us:List V},plv true r=true->All2 (λt v=>PA' H t (.inl v)) (GY r) us->PA' H r (.inr us)
 | .nil,_,_,h=>by cases h;exact .nil
 | .cons a r,_,p,h=>by
  cases h with
  |cons h1 h2=>
   have p':plv false a=true/\plv true r=true:=by simpa [plv]using p
   exact .cons h1 (WM p'.2 h2)
 | .int _,_,p,_| .bl _,_,p,_| .lst _,_,p,_| .fn _ _ _,_,p,_| .bind _ _ _,_,p,_=>by simp[plv]at p
section
variable{P:Program}{w:World}{K:FZ}{mg:Str->Option Value}{base:Heap}{f:Addr}{fd:FuncData}
inductive spLPW(n:Nat)(vs:List V)(H:Hp)(Q:VK):Prop
 |mk:∀(x:Vl) (v:V),(vs=[v])->(V1 H x v)->(plv false x=true)->(sz2 false x<=400000)->(dv x<=n)->(∀u H',Same H H'->PA' H' x (.inl u)->Q u H')->spLPW n vs H Q
noncomputable def WR(n:Nat):Sp:=λvs H Q _=>spLPW n vs H Q
theorem BE{n:Nat}{sp:Sp}(hsp:∀m,n=m+1->∀vs H Q E,WR m vs H Q E->sp vs H Q E)(F:Fun K "_law_plain" "_law_plain" W2 f fd)(B:NoL mg)
  (U8:FnOk P w K mg base CX0 n f fd PH sp)(U7:Binds K fd PH [])(V5:kZ K (.ref f)=true)(U9:mg "_law_plain"=some (.ref f)):
  FnOk P w K mg base CX0 (n+1) f fd PH (WR n):=by
 refine F.ok sc_law_plain (λvs H Q E h=> ?_) (λcdv A outer s H vs Q E hr h=> ?_)
 ·obtain⟨x,v,rfl,_⟩:=h;rfl
 obtain⟨x,v,rfl,hx,hpl,hsz,hd,q⟩:=h;have nd:=sc_law_plain.nd;have hu:=hr.units0;refine⟨_,(A6 (B7 (N5 (K:=K) (J7 (CC (K:=K)) rfl B.isinstance_ E1 (A0 (pv 0) (A0 (O1 (v:=.ty "tuple") rfl B.tuple_ M6 rfl) A5))) (λ_=>rfl)) (A9 (B4 (U2 (cS (N:=GI) (sc:=B3 W2) (caps:=[]) (ns:=[])) rfl rfl rfl (DZ (K:=K) (ixE K w (pv 0) A3)) (λ_ _ _ _ _=>P5) (λ_ _ _ _ _=>(C8 U8 (hr.mono (by omega)) rfl U9 V5 U7 .nil E5 (A0 (pv 0) A5)))))) B6)
   (A9 (B4 (pv 0)))), ?_⟩
 cases hx with
 | @int n=>exact⟨_,rfl,_,_,_,_,rfl,.int n,PV,false,rfl,ifF nZ ⟨_,rfl,q _ _ (Same.refl _) .int⟩⟩
 | @bl n=>exact⟨_,rfl,_,_,_,_,rfl,.bl n,OV,false,rfl,ifF nZ ⟨_,rfl,q _ _ (Same.refl _) .bl⟩⟩
 |fn=>simp[plv]at hpl
 | @lst r p p2 us hp hq hr'=>
  obtain⟨m,rfl⟩:∃m,n=m+1:=⟨n - 1,by have:dv r+1<=n:=hd;omega⟩;have hplr:plv true r=true:=by simpa [plv]using hpl
  have hszr:1+sz2 true r<=400000:=hsz;have hdr:dv r<=m:=Nat.le_of_succ_le_succ hd;have hrow:=OU hr' hplr;have hlen:us.length<=400000:=by rw[<-hrow.len];have:=YW r;omega
  have z4:(400000:Nat)<=sizeLine:=by decide
  refine⟨_,rfl,_,_,_,true,rfl,.tup hp,FR,true,rfl,ifT rfl ?_⟩;refine⟨_,rfl,(ixT hp rfl ⟨p2,rfl,⟨_,SqT.of hq⟩, ?_⟩)⟩;refine EM (xs:=us) (λi ys H'=>Same H H'/\ys.length=i/\All2 (λt v=>PA' H' t (.inl v)) ((GY r).take i) ys) ⟨Same.refl _,rfl,.nil⟩ ?_ ?_ ?_
  ·rintro i ys H' hi ⟨sm,hyl,_⟩;exact⟨SqT.of (sm _ _ hq),by omega⟩
  ·rintro i y ys H' hy ⟨sm,hyl,hys⟩;refine T3 ?_;obtain⟨t,ht,hty⟩:=hrow.get hy;have hm:=mem_of_getElem? ht;refine⟨_,rfl,hsp m rfl _ _ _ _ ⟨t,y,rfl,hty.1.mono (A4 sm),hty.2,Nat.le_trans (WC hm) (by omega),Nat.le_trans (XS hm) hdr,λu H2 s2 hu2=>⟨sm.trans s2,by rw[length_append,hyl];rfl, ?_⟩⟩⟩;rw[List.take_succ,ht];exact(hys.imp λ_ _ h=>h.same s2).app (.cons hu2 .nil)
  ·rintro ys H' ⟨sm,hyl,hys⟩ l hl;rw[<-hrow.len,take_length]at hys;have s2:=A1 hl (.lst ys);exact q _ _ (sm.trans s2) (.lst A2 (WM hplr (hys.imp λ_ _ h=>h.same s2)))
theorem ok_law_plain(F:Fun K "_law_plain" "_law_plain" W2 f fd)(B:NoL mg)(U7:Binds K fd PH [])(V5:kZ K (.ref f)=true)(U9:mg "_law_plain"=some (.ref f)):∀n,FnOk P w K mg base CX0 (n+1) f fd PH (WR n)
 |0=>BE (sp:=amZ) (λ_ e=>nomatch e) F B (HI λ_ _ _ _ h=>h) U7 V5 U9
 |n+1=>BE (sp:=WR n) (λm e vs H Q E h=>by cases e;exact h) F B (ok_law_plain F B U7 V5 U9 n) U7 V5 U9
inductive spLIW (vs:List V) (H:Hp) (Q:VK):Prop
 |mk:∀(b:Tm) (e:Vl) (r:List Fr) (calls deep most:Int) (f0 l0 bv ev lv:V) (p:Addr),(vs=[.ref p,lv,.int most,bv,ev])->(H p=some (.tup [f0,l0,.int calls,.int deep]))->(T1 H b bv)->(EA H e ev)->(PiA H r lv)->(r.length<=10000)->(∀v H',Same H H'->ReA H' (FT most b e r calls deep) v->Q v H')->spLIW vs H Q
noncomputable def bNZ:Sp:=λvs H Q _=>spLIW vs H Q
theorem ok_law_into(F:Fun K "_law_into" "_law_into" DS f fd):FnOk P w K mg base CX0 1 f fd aaZ bNZ:=by
 refine F.ok sc_law_into (λvs H Q E h=> ?_) (λcdv A outer s H vs Q E hr h=> ?_)
 ·obtain⟨b,e,r,calls,deep,most,f0,l0,bv,ev,lv,p,rfl,_⟩:=h;rfl
 obtain⟨b,e,r,calls,deep,most,f0,l0,bv,ev,lv,p,rfl,hp,hb,he,hl,hz,q⟩:=h;have nd:=sc_law_into.nd;have hu:=hr.units0;have z4:(4:Nat)<=sizeLine:=by decide
 refine⟨_,(A6 (B7 (B0 RJ (ixE K w (pv 0) A3) (pv 2) rfl) (A9 (B4 (A8 (A0 A7 A5)))) B6)
   (A6 (B7 (B0 RJ (ixE K w (pv 0) A3) A3 rfl) (A9 (B4 (A8 (A0 A7 A5)))) B6)
   (A9 (B4 (A8 (A0 (A8 (A0 A7 (A0 (pv 3) (A0 (pv 4) A5)))) (A0 (B5 (E4 (K:=K)) (pv 1) (A8 (A0 (A8 (A0 A7 A5)) A5))) (A0 (B5 (E4 (K:=K)) (ixE K w (pv 0) A3) A3) (A0 (B5 (E4 (K:=K)) (ixE K w (pv 0) A3) A3) A5))))))))), ?_⟩
 unfold FT at q;refine⟨_,rfl,(ixT hp rfl ⟨_,rfl,_,_,rfl,rfl,_,rfl,F9 (λc=> ?_) (λc=> ?_)⟩)⟩
 ·refine⟨K0,λa ha=>q _ _ (A1 ha _) ?_⟩;rw[if_pos (of_decide_eq_true c)];exact⟨a,rfl,A2⟩
 rw[if_neg (λz=>c (decide_eq_true z))]at q;refine⟨_,rfl,(ixT hp rfl ⟨_,_,rfl,rfl,_,rfl,F9 (λc=> ?_) (λc=> ?_)⟩)⟩
 ·refine⟨K0,λa ha=>q _ _ (A1 ha _) ?_⟩;rw[if_pos (of_decide_eq_true c)];exact⟨a,rfl,A2⟩
 rw[if_neg (λz=>c (decide_eq_true z))]at q;refine⟨_,rfl,_,rfl,C7,λa ha=> ?_⟩;have s1:=A1 ha (.tup [.str "term",bv,ev]);refine⟨_,rfl,K0,λa2 ha2=>⟨K0,λa3 ha3=> .inr (P4 (fr:=.back) (hl.mono (A4 (s1.trans ((A1 ha2 (.tup [.str "back"])).trans (A1 ha3 (.tup [.ref a2])))))) (.back ((A1 ha3 _) _ _ A2)) A2 (by omega) λpv H4 s4 hp4=> ?_)⟩⟩;have s14:=(A1 ha2 (.tup [.str "back"])).trans ((A1 ha3 (.tup [.ref a2])).trans s4);have p4:=(s1.trans s14) _ _ hp;refine⟨_,rfl,(ixT p4 rfl (.inl ⟨_,_,rfl,rfl,_,rfl,(ixT p4 rfl (.inl ⟨_,_,rfl,rfl,z4,λa5 ha5=> ?_⟩))⟩))⟩;have s5:=A1 ha5 (.tup [.ref a,pv,.int (calls+1),.int (deep+1)]);have sA:=s1.trans (s14.trans s5);exact q _ _ sA ⟨a5,.ref a,pv,rfl,A2,.term ((s14.trans s5) _ _ A2) (hb.mono (A4 sA)) (he.mono (A4 sA)),hp4.mono (A4 s5)⟩
end
noncomputable abbrev Z6:Stmt:=_B.top 54
noncomputable abbrev JF:List Str:=["_law_wait","_law_value","_law_sign","_law_left","_law_found"]
theorem sc_law_outcome:FnScope JF bxZ (B3 Z6):=fS
theorem NF(e:Nat->Bool)(us:List V):AB e us []=us.isEmpty:=by
 cases us<;>simp[AB]
theorem HM{K:FZ}{H:Hp}{q b:Addr}{us:List V}{Q:VK}(hq:H q=some (.tup us))(hb:H b=some (.tup []))(h:Q (.bl us.isEmpty) H):WH K (.ref q) (.ref b) H Q:=
 ⟨q,b,us,[],0,λ_=>true,rfl,rfl,SqT.of hq,SqT.of hb,by decide,λj u v _ hv=>by simp at hv,by rw[NF];exact h⟩
theorem HL{K:FZ}{H:Hp}{p q a b:Addr}{us:List V}{Q:VK}(hp:H p=some (.tup [.str "list",.ref q]))(hq:H q=some (.tup us))(ha:H a=some (.tup [.str "list",.ref b]))(hb:H b=some (.tup []))(h:Q (.bl us.isEmpty) H):WH K (.ref p) (.ref a) H Q:=by
 refine⟨p,a,_,_,1,λj=>if j=0 then(("list":Str)=="list")else AB (λ_=>true) us [],rfl,rfl,SqT.of hp,SqT.of ha,by decide,λj u v hu hv=> ?_, ?_⟩
 ·match j,hu,hv with
  |0,hu,hv=>cases hu;cases hv;exact .str
  |1,hu,hv=>cases hu;cases hv;exact .tup (SqT.of hq) (SqT.of hb) λj u v _ hv=>by simp at hv
  |j+2,hu,hv=>simp at hu
 ·have e:AB (λj=>if j=0 then(("list":Str)=="list")else AB (λ_=>true) us []) [V.str "list",.ref q] [V.str "list",.ref b]=us.isEmpty:=by
   rw[<-NF (λ_=>true) us];simp[AB,List.range_succ,List.range_zero]
  rw[e];exact h
theorem grt{n:Int}:decide (((10:Int)^(40:Int).toNat)<(if n<0 then -n else n))=decide (n>GR\/n< -GR):=by
 rw[show(10:Int)^(40:Int).toNat=GR by decide +kernel];apply decide_eq_decide.mpr;split<;>omega
theorem JS{H:Hp}{p:Addr}{o o':HO}(h:H p=none):Same H (upd (upd H p o) p o'):=λb x hb=>by
 rw[B9 (C1 hb h),B9 (C1 hb h)];exact hb
section
variable{P:Program}{w:World}{K:FZ}{mg:Str->Option Value}{base:Heap}{f:Addr}{fd:FuncData}
theorem ok_law_outcome(F:Fun K "_law_outcome" "_law_outcome" Z6 f fd)(B:NoL mg):FnOk P w K mg base CX0 1 f fd bxZ LH:=by
 refine F.ok sc_law_outcome (λvs H Q E h=> ?_) (λcdv A outer s H vs Q E hr h=> ?_)
 ·obtain⟨fr,x,o,t,v,rfl,_⟩:=h;rfl
 obtain⟨fr,x,o,t,v,rfl,hf,hx,hbx,hco,hlen,q⟩:=h;have nd:=sc_law_outcome.nd;have hu:=hr.units0;refine⟨_,(A6 (B7 (B0 (kEq (K:=K) hu) (ixE K w (pv 0) A3) A7 rfl) (A6 (B7 (B0 (kEq (K:=K) hu) (ixE K w (pv 0) A3) A7 rfl) (A9 (B4 (A8 (A0 A7 (A0 (YI (pv 1)) A5))))) B6)
   (A6 (B7 (B0 (kEq (K:=K) hu) (ixE K w (pv 0) A3) A7 rfl) (A9 (B4 (A8 (A0 A7 (A0 (N4 (CO (K:=K) hr.units) (pv 1) (A8 (A0 A7 (A0 (A8 A5) A5))) rfl) A5))))) B6)
   (A6 (B7 (B0 (CO (K:=K) hr.units) (pv 1) (A8 (A0 A7 (A0 (A8 A5) A5))) rfl) (A9 (B4 (A8 (A0 A7 (A0 (ixE K w (pv 0) A3) A5))))) B6)
   (A9 (B4 (A8 (A0 A7 (A0 (ixE K w (K1 (A0 (ixE K w (ixE K w (pv 1) A3) A3) (A0 (A8 (A0 A7 (A0 (C2 (kSl (K:=K)) (ixE K w (pv 1) A3) (C6 A3) C9) A5))) A5))) (F6 P6 rfl B.int_ FY (A0 (N4 (kEq (K:=K) hu) (ixE K w (pv 0) A3) A7 rfl) A5))) A5)))))))) B6)
   (A6 (Z7 (C2 (kSl (K:=K)) (pv 0) (C6 A3) C9) (FQ rfl (O4 (gN 2 nd) (O4 (gN 3 nd) CK))))
   (A6 (B7 (B0 (kEq (K:=K) hu) (pv 2) A7 rfl) (A9 (B4 (A8 (A0 A7 (A0 (A8 (A0 A7 (A0 (B5 (E4 (K:=K)) (A8 (A0 (pv 3) A5)) (ixE K w (pv 1) A3)) A5))) A5))))) B6)
   (A6 (D7 (B7 (PW.pt (N1 (B0 (kEq (K:=K) hu) (pv 2) A7 rfl) (M7 (B0 (kEq (K:=K) hu) (pv 1) A3 rfl)))) (A9 (B4 (A8 (A0 A7 (A0 A7 A5))))) B6))
   (A6 (B7 (B0 op_in_str (pv 2) A7 rfl) (A9 (B4 (A8 (A0 A7 (A0 (ixE K w (K1 (A0 (N4 (kEq (K:=K) hu) (pv 3) (pv 1) rfl) (A0 (N4 GL (pv 3) (pv 1) rfl) A5))) (F6 P6 rfl B.int_ FY (A0 (N4 (kEq (K:=K) hu) (pv 2) A7 rfl) A5))) A5))))) B6)
   (A6 (sS 4 nd (VJ hr.u1 (QX (AE A7 (B5 (E4 (K:=K)) (pv 3) (pv 1)) (AE A7 (B5 T4 (pv 3) (pv 1)) (AE A7 (B5 U1 (pv 3) (pv 1)) RO))) rfl rfl (by simp) (by decide)) (pv 2) A3 ⟨rfl,rfl,rfl,rfl⟩))
   (A6 (D7 (B7 (B0 (kEq (K:=K) hu) (pv 2) A7 rfl) (A9 (sS 4 nd (B5 C0 (pv 3) (pv 1)))) B6))
   (A9 (B4 (Y0 (B0 BF (J7 MN rfl B.abs_ WD (A0 (pv 4) A5)) (B5 OL A3 A3) rfl) (A8 (A0 A7 (A0 A7 A5))) (A8 (A0 A7 (A0 (pv 4) A5))))))))))))), ?_⟩
 rcases hco with⟨s,rfl,ho⟩|⟨s,a,rfl,hba,ho⟩
 ·cases hf with
  | @one _ p hp=>
   refine⟨_,rfl,(ixT hp rfl (.inl ⟨rfl,_,rfl,ifT rfl ?_⟩))⟩;refine⟨_,rfl,(ixT hp rfl (.inl ⟨rfl,_,rfl, ?_⟩))⟩;cases ho with
   | @not b=>
    cases hx;exact ifT rfl ⟨_,rfl,_,rfl,C5,λa ha=>q _ _ (A1 ha _) (.val A2 .bl)⟩
   |emptyT=>
    cases hx with
    | @lst _ p' p2 us hp' hq hr'=>
     cases hr';refine ifF nZ ⟨_,rfl,(ixT hp rfl (.inl ⟨rfl,_,rfl,ifT rfl ?_⟩))⟩;refine⟨_,rfl,zero_le _,λb hb=>⟨C5,λc hc=> ?_⟩⟩;have s1:=A1 hb (.tup []);have s2:=A1 hc (.tup [.str "list",.ref b]);have s12:=s1.trans s2;exact HL (s12 _ _ hp') (s12 _ _ hq) A2 (s2 _ _ A2) ⟨C5,λa ha=>q _ _ (s12.trans (A1 ha _)) (.val A2 .bl)⟩
   |emptyF=>
    cases hx with
    | @lst _ p' p2 us hp' hq hr'=>
     cases hr' with
     | @cons _ _ y ys h1 h2=>
      refine ifF nZ ⟨_,rfl,(ixT hp rfl (.inl ⟨rfl,_,rfl,ifT rfl ?_⟩))⟩;refine⟨_,rfl,zero_le _,λb hb=>⟨C5,λc hc=> ?_⟩⟩;have s1:=A1 hb (.tup []);have s2:=A1 hc (.tup [.str "list",.ref b]);have s12:=s1.trans s2;exact HL (s12 _ _ hp') (s12 _ _ hq) A2 (s2 _ _ A2) ⟨C5,λa ha=>q _ _ (s12.trans (A1 ha _)) (.val A2 .bl)⟩
   |headN=>
    cases hx with
    | @lst _ p' p2 us hp' hq hr'=>
     cases hr';refine ifF nZ ⟨_,rfl,(ixT hp rfl (.inl ⟨rfl,_,rfl,ifF nZ ?_⟩))⟩;refine⟨_,rfl,zero_le _,λb hb=>⟨C5,λc hc=> ?_⟩⟩;have s1:=A1 hb (.tup []);have s2:=A1 hc (.tup [.str "list",.ref b]);have s12:=s1.trans s2;exact HL (s12 _ _ hp') (s12 _ _ hq) A2 (s2 _ _ A2) ⟨_,rfl,ifT rfl ⟨_,rfl,(ixT (s12 _ _ hp) rfl ⟨C5,λa ha=>q _ _ (s12.trans (A1 ha _)) (.ref A2)⟩)⟩⟩
   |tailN=>
    cases hx with
    | @lst _ p' p2 us hp' hq hr'=>
     cases hr';refine ifF nZ ⟨_,rfl,(ixT hp rfl (.inl ⟨rfl,_,rfl,ifF nZ ?_⟩))⟩;refine⟨_,rfl,zero_le _,λb hb=>⟨C5,λc hc=> ?_⟩⟩;have s1:=A1 hb (.tup []);have s2:=A1 hc (.tup [.str "list",.ref b]);have s12:=s1.trans s2;exact HL (s12 _ _ hp') (s12 _ _ hq) A2 (s2 _ _ A2) ⟨_,rfl,ifT rfl ⟨_,rfl,(ixT (s12 _ _ hp) rfl ⟨C5,λa ha=>q _ _ (s12.trans (A1 ha _)) (.ref A2)⟩)⟩⟩
   |head|tail=>
    cases hx with
    | @lst _ p' p2 us hp' hq hr'=>
     cases hr' with
     | @cons _ _ y ys h1 h2=>
      refine ifF nZ ⟨_,rfl,(ixT hp rfl (.inl ⟨rfl,_,rfl,ifF nZ ?_⟩))⟩;refine⟨_,rfl,zero_le _,λb hb=>⟨C5,λc hc=> ?_⟩⟩;have s1:=A1 hb (.tup []);have s2:=A1 hc (.tup [.str "list",.ref b]);have s12:=s1.trans s2;refine HL (s12 _ _ hp') (s12 _ _ hq) A2 (s2 _ _ A2) ⟨_,rfl,ifF nZ ?_⟩;refine⟨_,rfl,(ixT (s12 _ _ hp') rfl (ixT (s12 _ _ hq) (show atI (y::ys) ((0:Nat):Int)=some y from D5 rfl) ?_))⟩;refine⟨_,rfl,(ixT (s12 _ _ hp') rfl ⟨_,rfl,.inr ⟨p2,_,rfl,SqT.of (s12 _ _ hq),E3 (by decide) (succ_pos _) _,λp3 hp3=>⟨C5,λa ha=>⟨C5,λl hl=> ?_⟩⟩⟩⟩)⟩;rw[show P3 (y::ys) (some 1) none=ys by exact Y6 y ys]at ha hl⊢;have s3:=A1 hp3 (.tup ys);have s4:=A1 ha (.tup [.str "list",.ref p3]);have s5:=A1 hl (.lst [y,.ref a]);have sA:=s12.trans (s3.trans (s4.trans s5));refine⟨_,rfl,(ixT (sA _ _ hp) rfl (.inl ⟨rfl,.inl ⟨_,rfl,(ixL A2 rfl ⟨C5,λd hd=> ?_⟩)⟩⟩))⟩;have s6:=A1 hd
      first
      |exact q _ _ (sA.trans (A1 hd _)) (.val A2 (h1.mono (A4 (sA.trans (A1 hd _)))))
      |exact q _ _ (sA.trans (A1 hd _)) (.val A2 (.lst ((s5.trans (A1 hd _)) _ _ A2) ((s4.trans (s5.trans (A1 hd _))) _ _ A2) (h2.mono (A4 (sA.trans (A1 hd _))))))
 ·cases hf with
  | @then_ _ _ p u hp hau=>
   refine⟨_,rfl,(ixT hp rfl (.inl ⟨rfl,_,rfl,ifF nZ ?_⟩))⟩;refine⟨_,rfl,_,rfl,.inr ⟨p,_,rfl,SqT.of hp,E3 (by decide) (succ_pos _) _,λc hc=>⟨c,_,rfl,SqT.of A2,rfl, ?_⟩⟩⟩;rw[show P3 [V.str "then",.str s,u] (some 1) none=[.str s,u] by exact Y6 _ _];refine⟨_,_,rfl,_,_,rfl,rfl, ?_⟩;have s1:=A1 hc (.tup [.str s,u]);have hx1:=hx.mono (A4 s1);have hau1:=hau.mono (A4 s1);have hp1:=s1 _ _ hp;have q1:∀u' H',Same (upd H c (.tup [.str s,u])) H'->OuA H' o u'->Q u' H':=λu' H' sm h=>q u' H' (s1.trans sm) h;show S9 _ _ _ [some (.ref p),some v,some (.str s),some u,none] (upd H c (.tup [.str s,u]));generalize upd H c (.tup [.str s,u])=H1 at hx1 hau1 hp1 q1⊢;cases ho with
   | @cons _ r=>
    cases hx1 with
    | @lst _ p' p2 us hp' hq hr'=>
     refine⟨_,rfl,.inl ⟨rfl,_,rfl,ifT rfl ?_⟩⟩;refine⟨_,rfl,K0,λb hb=>⟨_,rfl,(ixT ((A1 hb _) _ _ hp') rfl (.inr (.inl (FH A2 ((A1 hb _) _ _ hq) (by rw[hr'.len];have:=hlen r rfl;omega) λr2 H2 s2 hr2=>⟨C5,λd hd=>⟨C5,λe he=> ?_⟩⟩))))⟩⟩;have sA:=(A1 hb (.tup [u])).trans (s2.trans ((A1 hd (.tup [.str "list",.ref r2])).trans (A1 he (.tup [.str "value",.ref d]))));exact q1 _ _ sA (.val A2 (.lst (A1 he _ _ _ A2) (((A1 hd _).trans (A1 he _)) _ _ hr2) (.cons (hau1.mono (A4 sA)) (hr'.mono (A4 sA)))))
   | @num k a b hk=>
    cases hx1;cases hau1;have hba: -GR<=a/\a<=GR:=hba;have hbx: -GR<=b/\b<=GR:=hbx;have no:∀ {o':Out},o'=tw k a b->∀u' H',Same H1 H'->OuA H' o' u'->Q u' H':=λe u' H' sm h=>q1 u' H' sm (e▸h)
    match k,hk with
    |5,_=>
     refine⟨_,rfl,.inl ⟨rfl,_,rfl,ifF nZ ?_⟩⟩;by_cases hb0:b=0
     ·subst hb0;exact⟨λ_ _=>False,⟨_,rfl,.inl ⟨rfl,_,rfl,ifT rfl ⟨_,rfl,.inl ⟨rfl,_,rfl,ifT rfl ⟨C5,λd hd=>no (o':=.ref "nought") rfl _ _ (A1 hd _) (.ref A2)⟩⟩⟩⟩⟩,λ_ _ h=>h.elim⟩
     refine⟨fun σ' H'=>σ'=[some (.ref p),some (.int b),some (.str (sg 5)),some (.int a),none]/\H1=H',⟨_,rfl,.inl ⟨rfl,_,rfl,ifT rfl ⟨_,rfl,.inl ⟨rfl,_,rfl,ifF (by simpa using hb0) ⟨rfl,rfl⟩⟩⟩⟩⟩, ?_⟩;rintro _ _ ⟨rfl,rfl⟩;refine⟨_,rfl,_,_,rfl,rfl,_,rfl,ifF (by decide +kernel) ?_⟩;intro dd hdd;refine⟨_,rfl,_,rfl,.inl ⟨_,_,rfl,rfl,_,rfl,_,rfl,_,_,rfl,rfl,_,rfl,_,rfl,_,_,rfl,rfl,PQ hba hbx,A2,[(.inr "+",.int (a+b)),(.inr "-",.int (a - b)),(.inr "*",.int (a*b))],rfl,(by show 3<=15;decide),dd,rfl,.inl ⟨_,.inl A2⟩,_,rfl,none,.inl ⟨_,.inr (sg 5),.inl A2,rfl,rfl⟩, ?_⟩⟩;have s2:Same _ (upd (upd _ dd (.dK [])) dd (.dK (L8 [] [(.inr "+",.int (a+b)),(.inr "-",.int (a - b)),(.inr "*",.int (a*b))]))):=JS hdd;refine⟨fun σ' H'=>σ'=[some (.ref p),some (.int b),some (.str (sg 5)),some (.int a),some (.int (a.fdiv b))]/\Same H1 H',⟨_,rfl,.inl ⟨rfl,_,rfl,ifT rfl ⟨_,rfl,_,rfl,_,_,rfl,rfl,⟨hb0,YD hbx⟩,rfl,s2⟩⟩⟩, ?_⟩;rintro _ H2 ⟨rfl,s2⟩;have hfd:=RQ hba.1 hba.2 hb0;refine⟨_,rfl,_,rfl,_,_,rfl,rfl,⟨by decide,by decide,by decide⟩,_,_,rfl,rfl,_,rfl, ?_⟩;rw[grt,decide_eq_false (by omega:¬(a.fdiv b>GR\/a.fdiv b< -GR))];exact ifF nZ ⟨_,rfl,C5,λd hd=>no (o':=.val (.int (a.fdiv b))) (by show _=(if b=0 then _ else _);rw[if_neg hb0]) _ _ (s2.trans (A1 hd _)) (.val A2 .int)⟩
    |3,_=>
     refine⟨_,rfl,.inl ⟨rfl,_,rfl,ifF nZ ?_⟩⟩;refine⟨fun σ' H'=>σ'=[some (.ref p),some (.int b),some (.str (sg 3)),some (.int a),none]/\H1=H',⟨_,rfl,.inl ⟨rfl,_,rfl,ifF nZ (ifF nZ ⟨rfl,rfl⟩)⟩⟩, ?_⟩;rintro _ _ ⟨rfl,rfl⟩;refine⟨_,rfl,_,_,rfl,rfl,_,rfl,ifT (by decide +kernel) ?_⟩;exact⟨_,rfl,_,rfl,.inl ⟨rfl,_,rfl,_,rfl,_,_,rfl,rfl,C5,λl hl=>⟨_,rfl,.inl ⟨rfl,.inl ⟨_,rfl,(ixL A2 rfl ⟨C5,λd hd=>no (o':=.val (.bl (decide (a<b)))) rfl _ _ ((A1 hl _).trans (A1 hd _)) (.val A2 .bl)⟩)⟩⟩⟩⟩⟩
    |4,_=>
     refine⟨_,rfl,.inl ⟨rfl,_,rfl,ifF nZ ?_⟩⟩;refine⟨fun σ' H'=>σ'=[some (.ref p),some (.int b),some (.str (sg 4)),some (.int a),none]/\H1=H',⟨_,rfl,.inl ⟨rfl,_,rfl,ifF nZ (ifF nZ ⟨rfl,rfl⟩)⟩⟩, ?_⟩;rintro _ _ ⟨rfl,rfl⟩;refine⟨_,rfl,_,_,rfl,rfl,_,rfl,ifT (by decide +kernel) ?_⟩;exact⟨_,rfl,_,rfl,.inl ⟨rfl,_,rfl,_,rfl,_,_,rfl,rfl,C5,λl hl=>⟨_,rfl,.inl ⟨rfl,.inl ⟨_,rfl,(ixL A2 rfl ⟨C5,λd hd=>no (o':=.val (.bl (decide (V.int a=V.int b)))) (by show Out.val (.bl (decide _))=.val (.bl (decide (a=b)));simp) _ _ ((A1 hl _).trans (A1 hd _)) (.val A2 .bl)⟩)⟩⟩⟩⟩⟩
    |0,_|1,_|2,_=>
     refine⟨_,rfl,.inl ⟨rfl,_,rfl,ifF nZ ?_⟩⟩;refine⟨fun σ' H'=>σ'=[some (.ref p),some (.int b),some (.str (sg _)),some (.int a),none]/\H1=H',⟨_,rfl,.inl ⟨rfl,_,rfl,ifF nZ (ifF nZ ⟨rfl,rfl⟩)⟩⟩, ?_⟩;rintro _ _ ⟨rfl,rfl⟩;refine⟨_,rfl,_,_,rfl,rfl,_,rfl,ifF (by decide +kernel) ?_⟩;intro dd hdd;refine⟨_,rfl,_,rfl,.inl ⟨_,_,rfl,rfl,_,rfl,_,rfl,_,_,rfl,rfl,_,rfl,_,rfl,_,_,rfl,rfl,PQ hba hbx,A2,[(.inr "+",.int (a+b)),(.inr "-",.int (a - b)),(.inr "*",.int (a*b))],rfl,(by show 3<=15;decide),dd,rfl,.inl ⟨_,.inl A2⟩,_,rfl,some _,.inl ⟨_,.inr (sg _),.inl A2,rfl,rfl⟩, ?_⟩⟩;have s2:Same _ (upd (upd _ dd (.dK [])) dd (.dK (L8 [] [(.inr "+",.int (a+b)),(.inr "-",.int (a - b)),(.inr "*",.int (a*b))]))):=JS hdd;refine⟨fun σ' H'=>(∃n,σ'=[some (.ref p),some (.int b),some (.str (sg _)),some (.int a),some (.int n)]/\∀u' H2,Same H1 H2->OuA H2 (HY n) u'->Q u' H2)/\Same H1 H',⟨_,rfl,.inl ⟨rfl,_,rfl,ifF nZ ⟨⟨_,rfl,no rfl⟩,s2⟩⟩⟩, ?_⟩;rintro _ H2 ⟨⟨n,rfl,hn⟩,s2⟩;refine⟨_,rfl,_,rfl,_,_,rfl,rfl,⟨by decide,by decide,by decide⟩,_,_,rfl,rfl,_,rfl, ?_⟩;rw[grt];unfold HY at hn;by_cases g:n>GR\/n< -GR
     ·rw[decide_eq_true g];rw[if_pos g]at hn;exact ifT rfl ⟨C5,λd hd=>hn _ _ (s2.trans (A1 hd _)) (.ref A2)⟩
     ·rw[decide_eq_false g];rw[if_neg g]at hn;exact ifF nZ ⟨_,rfl,C5,λd hd=>hn _ _ (s2.trans (A1 hd _)) (.val A2 .int)⟩
end
noncomputable abbrev Q1:Stmt:=_B.top 53
noncomputable abbrev Z9:List Str:=["_law_program_here","_law_state","_law_most","_law_term","_law_bound","_law_kind_here","_law_found","_law_first","_law_wait"]
theorem sc_law_of_term:FnScope Z9 LX (B3 Q1):=fS
theorem DW{K:FZ}{a:Addr}{us:List V}{caps:List Nat}{tt:TT}{te:TE}{σ:St}{H:Hp}{R:List V->Hp->Prop}{D:List Dn}{z:Str}{d:Dn}{E:Dn->V->Prop}(hp:H a=some (.tup us))(hD:All2 (DnA H) D us)(hz:D.length<=1000)(hd:(D.find? λd=>d.name==z)=some d)
  (hs:∀(x:V) (di:Dn) (ys:List V) (Pv:List V->Hp->Prop),DnA H di x->(di.name=z->∀u,E di u->Pv (ys++ [u]) H)->(di.name≠z->Pv ys H)->tt (capσ caps σ (some x)) H λb H2=>if b=true then te (capσ caps σ (some x)) H2 λy H3=>Pv (ys++ [y]) H3 else Pv ys H2)
  (hR:∀u rest,E d u->R (u::rest) H):
  ∃W:Nat->Nat->List V->Hp->Prop,(∃m,W 0 m [] H)/\∀i m ys H,W i m ys H->ys.length<=sizeLine/\(((Itt K a).stop i H/\R ys H)\/((Itt K a).go i H/\∃N:List V->Hp->Prop,(∀ys' H',N ys' H'->∃m',m'<m/\W (i+1) m' ys' H')/\∀v H',(Itt K a).yld i H v H'->
   tt (capσ caps σ (some v)) H' λb H2=>if b=true then te (capσ caps σ (some v)) H2 λy H3=>N (ys++ [y]) H3 else N ys H2)):=by
 have zz:(1000:Nat)<=sizeLine:=by decide
 have hl:=hD.len;refine EM (xs:=us) (λj ys H'=>ys.length<=j/\(∀d,((D.take j).find? λd=>d.name==z)=some d->∃u rest,ys=u::rest/\E d u)/\(((D.take j).find? λd=>d.name==z)=none->ys=[])/\H=H') ⟨Nat.le_refl _,by simp,λ_=>rfl,rfl⟩ ?_ ?_ ?_
 ·rintro i ys H' hi ⟨hv,_,_,rfl⟩;exact⟨SqT.of hp,by omega⟩
 ·rintro i x ys H' hx ⟨hv,hf,hn,rfl⟩;obtain⟨di,hdi,hda⟩:=hD.get hx;refine hs x di ys (λys H'=>ys.length<=i+1/\(∀d,((D.take (i+1)).find? λd=>d.name==z)=some d->∃u rest,ys=u::rest/\E d u)/\(((D.take (i+1)).find? λd=>d.name==z)=none->ys=[])/\H=H') hda (λc u hu=>⟨by rw[length_append];simp only[length_cons,length_nil];omega,λd' h'=> ?_,λh'=> ?_,rfl⟩) (λc=>⟨by omega,λd' h'=> ?_,λh'=> ?_,rfl⟩)
  ·rw[_B.take_one hdi,find?_append]at h';cases h9:(D.take i).find? λd=>d.name==z with
   |some d9=>
    rw[h9]at h';have e9:d9=d':=by simpa using h'
    subst e9;obtain⟨u',rest,e,h⟩:=hf d9 h9;exact⟨u',rest++ [u],by rw[e];rfl,h⟩
   |none=>
    rw[h9]at h';have e8:di.name==z/\di=d':=by simpa using h'
    obtain⟨_,rfl⟩:=e8;rw[hn h9];exact⟨u,[],rfl,hu⟩
  ·rw[_B.take_one hdi,find?_append]at h';simp[c]at h'
  ·rw[_B.take_one hdi,find?_append]at h';cases h9:(D.take i).find? λd=>d.name==z with
   |some d9=>
    rw[h9]at h';have e9:d9=d':=by simpa using h'
    subst e9;exact hf d9 h9
   |none=>
    rw[h9]at h';have e8:di.name==z/\di=d':=by simpa using h'
    exact absurd (by simpa using e8.1) c
  ·rw[_B.take_one hdi,find?_append]at h';exact hn (Option.or_eq_none_iff.mp h').1
 rintro ys H' ⟨hv,hf,_,rfl⟩;rw[<-hl,take_of_length_le (Nat.le_refl _)]at hf;obtain⟨u,rest,rfl,hu⟩:=hf d hd;exact hR u rest hu
theorem V1.ne_non{H:Hp}{x:Vl}{v:V}(h:V1 H x v):v≠ .non:=by cases h<;>(intro e;cases e)
theorem aPZ{a b c:V}{pre:List V}(h: [a,b]=pre++ [c]):c=b:=by simpa using(congrArg List.getLast? h).symm
theorem afZ(x y:V)(ws:List V):P3 (x::y::ws) (some 2) none=ws:=by
 have:=ET (x::y::ws) 2;exact this
theorem BH{t:TS}{D:Ends}{σ:St}{H:Hp}(h:t D σ H):tCut t D σ H:=⟨D.nx,h,λ_ _ h=>h⟩
section
variable{P:Program}{w:World}{K:FZ}{mg:Str->Option Value}{base:Heap}{f:Addr}{fd:FuncData}{OA:Addr}{OC:FuncData}
theorem ok_law_of_term(F:Fun K "_law_of_term" "_law_of_term" Q1 f fd)(B:NoL mg)
  (Q5:Cn P w K mg base CX0 1 "_law_into" aaZ bNZ):
  FnOk P w K mg base CX0 2 f fd LX ZO:=by
 refine F.ok sc_law_of_term (λvs H Q E h=> ?_) (λcdv A outer s H vs Q E hr h=> ?_)
 ·obtain⟨t,e,pl,c,d,r,D,most,gv,sv,rfl,_⟩:=h;rfl
 obtain⟨t,e,pile,calls,deep,r,D,most,gv,sv,rfl,⟨p,fv,lv,rfl,hp,hf,hl⟩,hg,hgl,hz,hez,hst,q⟩:=h;have hp:H p=some (.tup [fv,lv,.int calls,.int deep]):=hp;have hl:PiA H pile lv:=hl;obtain⟨pt,tv,ev,rfl,hpt,ht,he⟩:∃p u w,fv=.ref p/\H p=some (.tup [.str "term",u,w])/\T1 H t u/\EA H e w:=by
  cases hf with
  |term h1 h2 h3=>exact⟨_,_,_,rfl,h1,h2,h3⟩
 have nd:=sc_law_of_term.nd;have hu:=hr.units0;refine⟨_,(A6 (Z7 (C2 (kSl (K:=K)) (ixE K w (pv 1) A3) (C6 A3) C9) (FQ rfl (O4 (EV (i:=3) nd rfl (Or.inr rfl)) (O4 (gN 4 nd) CK))))
   (A6 (sS 5 nd (ixE K w (pv 3) A3))
   (A6 (sS 6 nd (VE hr.u1 (QX (AE A7 (ixE K w (pv 3) (EY AJ A3)) (AE A7 (ixE K w (pv 3) (EY AJ A3)) (AE A7 (A8 (A0 A7 (A0 (A8 A5) A5))) RO))) rfl rfl (by simp) (by decide)) (pv 5) ⟨rfl,rfl,rfl,rfl⟩))
   (A6 (D7 (B7 (B0 (kEq (K:=K) hu) (pv 5) A7 rfl) (A9 (sS 6 nd (ixE K w (U2 (cS (N:=Z9) (sc:=B3 Q1) (caps:=[3]) (ns:=["_law_term"])) rfl rfl rfl (DZ (K:=K) (pv 4)) (λ_ _ _ _ _=>(U6 (B0 (kEq (K:=K) hu) (ixE K w (pv 0) A3) (ixE K w (pv 1) A3) rfl))) (λ_ _ _ _ _=>(ixE K w (pv 0) A3))) (EY AJ A3)))) B6))
   (A6 (D7 (B7 (B0 (kEq (K:=K) hu) (pv 5) A7 rfl) (A9 (sS 6 nd (B5 (E4 (K:=K)) (pv 3) (A8 (A0 (pv 4) A5))))) B6))
   (A6 (B7 (B0 RC (pv 6) OR rfl) (A9 (B4 (B5 (E4 (K:=K)) (A8 (A0 (A8 (A0 A7 (A0 (pv 6) A5))) A5)) (C2 (kSl (K:=K)) (pv 1) (C6 A3) C9)))) B6)
   (A6 (D7 (B7 (PW.pt (N1 (B0 (kEq (K:=K) hu) (ixE K w (pv 3) A3) A7 rfl) (M7 (B0 (CO (K:=K) hr.units) (ixE K w (pv 3) A3) (A8 A5) rfl)))) (A9 (B4 (cC Q5 hr (A0 (pv 1) (A0 (ixE K w (pv 1) A3) (A0 (pv 2) (A0 (ixE K w (U2 (cS (N:=Z9) (sc:=B3 Q1) (caps:=[3]) (ns:=["_law_term"])) rfl rfl rfl (DZ (K:=K) (pv 0)) (λ_ _ _ _ _=>(U6 (B0 (kEq (K:=K) hu) (ixE K w (pv 0) A3) (ixE K w (pv 1) A3) rfl))) (λ_ _ _ _ _=>(ixE K w (pv 0) A3))) A3) (A0 (A8 A5) A5)))))))) B6))
   (A6 (D7 (sS 7 nd (ixE K w (pv 3) (B5 (E4 (K:=K)) A3 (F6 P6 rfl B.int_ FY (A0 (N4 (kIn (K:=K) (w:=w)) (pv 5) (A8 (A0 A7 (A0 A7 (A0 A7 (A0 A7 A5))))) rfl) A5))))))
   (A6 (D7 (sS 8 nd (B5 (E4 (K:=K)) (A8 (A0 (pv 5) A5)) (C2 (kSl (K:=K)) (pv 3) (C6 A3) C9))))
   (A6 (D7 (B7 (B0 (kIn (K:=K) (w:=w)) (pv 5) (A8 (A0 A7 (A0 A7 A5))) rfl) (A9 (D7 (sS 8 nd (A8 (A0 (pv 5) (A0 (ixE K w (pv 3) A3) (A0 (ixE K w (pv 3) A3) A5))))))) B6))
   (A6 (B7 (B0 (kEq (K:=K) hu) (pv 5) A7 rfl) (A9 (B4 (B5 (E4 (K:=K)) (A8 (A0 (A8 (A0 A7 (A0 (pv 7) (A0 (pv 4) A5)))) (A0 (B5 (E4 (K:=K)) (ixE K w (pv 1) A3) (A8 (A0 (A8 (A0 A7 (A0 (ixE K w (pv 3) A3) A5))) A5))) A5))) (C2 (kSl (K:=K)) (pv 1) (C6 A3) C9)))) B6)
   (A6 (D7 (B7 (B0 (kEq (K:=K) hu) (pv 5) A7 rfl) (A6 (D7 (sS 7 nd (ixE K w (ixE K w (pv 3) A3) A3)))
   (A9 (D7 (sS 8 nd (A8 (A0 A7 (A0 (ixE K w (pv 3) A3) (A0 (A8 A5) (A0 (C2 (kSl (K:=K)) (ixE K w (pv 3) A3) (C6 A3) C9) A5))))))))) B6))
   (A9 (B4 (B5 (E4 (K:=K)) (A8 (A0 (A8 (A0 A7 (A0 (pv 7) (A0 (pv 4) A5)))) (A0 (B5 (E4 (K:=K)) (ixE K w (pv 1) A3) (A8 (A0 (B5 (E4 (K:=K)) (pv 8) (A8 (A0 (pv 4) A5))) A5))) A5))) (C2 (kSl (K:=K)) (pv 1) (C6 A3) C9)))))))))))))))), ?_⟩
 obtain⟨a,rest,rfl,ha⟩:=ht.word;have hat:atI (V.str (tmW t)::rest) ((0:Nat):Int)=some (.str (tmW t)):=D5 rfl;obtain⟨pre,lst,epre⟩:∃pre lst,V.str (tmW t)::rest=pre++ [lst]:=⟨_,_,(List.dropLast_concat_getLast (cons_ne_nil _ _)).symm⟩;have hlast:atI (V.str (tmW t)::rest) (-1)=some lst:=by rw[epre];exact BY _ _
 refine stp λNx eN=> ?_;refine⟨_,rfl,(ixT hp rfl ⟨_,rfl,.inr ⟨pt,_,rfl,SqT.of hpt,E3 (by decide) (succ_pos _) _,λc0 hc0=>⟨c0,_,rfl,SqT.of A2,rfl, ?_⟩⟩⟩)⟩;rw[show P3 [V.str "term",.ref a,ev] (some 1) none=[.ref a,ev] by exact Y6 _ _];refine⟨_,_,rfl,_,_,rfl,rfl, ?_⟩;have s0:=A1 hc0 (.tup [.ref a,ev]);show Nx _ _;subst eN;refine stp λNx eN=> ?_;refine⟨_,rfl,(ixT (s0 _ _ ha) hat ?_)⟩;show Nx _ _;subst eN;refine stp λNx eN=> ?_;intro dd hdd;have s1:=A1 hdd (.dK []);refine⟨_,rfl,1,rfl,(ixT ((s0.trans s1) _ _ ha) hlast ⟨_,rfl,1,rfl,(ixT ((s0.trans s1) _ _ ha) hlast ⟨zero_le _,λb1 hb1=>⟨C5,λb2 hb2=> ?_⟩⟩)⟩)⟩;have s2:=A1 hb1 (.tup []);have s3:=A1 hb2 (.tup [.str "list",.ref b1]);refine⟨(s2.trans s3) _ _ A2,[(.inr "number",lst),(.inr "truth",lst),(.inr "none",.ref b2)],rfl,(by show 3<=15;decide),dd,rfl,.inl ⟨_,.inl A2⟩,_,rfl,R0 (L8 [] [(.inr "number",lst),(.inr "truth",lst),(.inr "none",.ref b2)]) (.inr (tmW t)),.inl ⟨_,.inr (tmW t),.inl A2,rfl,rfl⟩, ?_⟩;have s4:Same H (upd (upd (upd (upd (upd H c0 (.tup [.ref a,ev])) dd (.dK [])) b1 (.tup [])) b2 (.tup [.str "list",.ref b1])) dd (.dK (L8 [] [(.inr "number",lst),(.inr "truth",lst),(.inr "none",.ref b2)]))):=λb o hb=>by
  have h1:=s0 _ _ hb;rw[B9 (C1 h1 hdd)];exact(s1.trans (s2.trans s3)) _ _ h1
 have hdb:∀ {b:Addr} {o:HO} {H':Hp},H' dd=some o->(upd H' b o) b=some o:=λ_=>A2;have n2d:b2≠dd:=λe=>by rw[e,s2 _ _ A2]at hb2;cases hb2
 have n1d:b1≠dd:=λe=>by rw[e,A2]at hb1;cases hb1
 have hB2:(upd (upd (upd (upd (upd H c0 (.tup [.ref a,ev])) dd (.dK [])) b1 (.tup [])) b2 (.tup [.str "list",.ref b1])) dd (.dK (L8 [] [(.inr "number",lst),(.inr "truth",lst),(.inr "none",.ref b2)]))) b2=some (.tup [.str "list",.ref b1]):=by rw[B9 n2d];exact A2
 have hB1:(upd (upd (upd (upd (upd H c0 (.tup [.ref a,ev])) dd (.dK [])) b1 (.tup [])) b2 (.tup [.str "list",.ref b1])) dd (.dK (L8 [] [(.inr "number",lst),(.inr "truth",lst),(.inr "none",.ref b2)]))) b1=some (.tup []):=by rw[B9 n1d];exact s3 _ _ A2
 show Nx _ _;subst eN;show S9 _ _ _ [some gv,some (.ref p),some (.int most),some (.ref a),some ev,some (.str (tmW t)),some ((R0 (L8 [] [(.inr "number",lst),(.inr "truth",lst),(.inr "none",.ref b2)]) (.inr (tmW t))).getD .non),none,none] (upd (upd (upd (upd (upd H c0 (.tup [.ref a,ev])) dd (.dK [])) b1 (.tup [])) b2 (.tup [.str "list",.ref b1])) dd (.dK (L8 [] [(.inr "number",lst),(.inr "truth",lst),(.inr "none",.ref b2)])));generalize upd (upd (upd (upd (upd H c0 (.tup [.ref a,ev])) dd (.dK [])) b1 (.tup [])) b2 (.tup [.str "list",.ref b1])) dd (.dK (L8 [] [(.inr "number",lst),(.inr "truth",lst),(.inr "none",.ref b2)]))=H4 at s4 hB1 hB2⊢;clear hdb n1d n2d s0 s1 s2 s3 hb1 hb2 hdd hc0;have hp4:=s4 _ _ hp;have ha4:=s4 _ _ ha;have ht4:=ht.mono (A4 s4);have he4:=he.mono (A4 s4);have hg4:=hg.mono (A4 s4);have hl4:=hl.mono (A4 s4);refine stp λNx eN=> ?_;cases hst with
 | @once _ _ v _ _ _ hv=>
  refine⟨fun σ' H'=>∃x,σ'=[some gv,some (.ref p),some (.int most),some (.ref a),some ev,some (.str (tmW t)),some x,none,none]/\Same H4 H'/\((∃z b,t=.fn z b)\/V1 H' v x), ?_, ?_⟩
  ·cases hv with
   |num=>
    cases ht4 with
    |num h=>rw[ha4]at h;cases h;exact⟨_,rfl,.inl ⟨rfl,_,rfl,ifF nZ ⟨_,rfl,Same.refl _,.inr (by rw[aPZ epre];exact .int)⟩⟩⟩
   |tru=>
    cases ht4 with
    |tru h=>rw[ha4]at h;cases h;exact⟨_,rfl,.inl ⟨rfl,_,rfl,ifF nZ ⟨_,rfl,Same.refl _,.inr (by rw[aPZ epre];exact .bl)⟩⟩⟩
   |non=>exact⟨_,rfl,.inl ⟨rfl,_,rfl,ifF nZ ⟨_,rfl,Same.refl _,.inr (.lst hB2 hB1 .nil)⟩⟩⟩
   |fn=>exact⟨_,rfl,.inl ⟨rfl,_,rfl,ifF nZ ⟨_,rfl,Same.refl _,.inl ⟨_,_,rfl⟩⟩⟩⟩
   | @name z _ hn=>
    cases ht4 with
    |name h=>
     rw[ha4]at h;cases h;obtain⟨pe,us,rfl,hpe,hev⟩:=he4;have hb:=NQ hev;have hbl:=hb.len;have hl1:=hev.len;have zz:(1000:Nat)<=sizeLine:=by decide
     rw[<-HG]at hn;refine⟨_,rfl,.inl ⟨rfl,_,rfl,ifT rfl ?_⟩⟩;refine⟨_,rfl,pe,rfl,⟨us,SqT.of hpe⟩,EM (xs:=us) (λj ys H'=>ys.length<=j/\(∀m,lk z ((binds e).take j)=some m->∃pre u,ys=pre++ [u]/\V1 H4 m u)/\H4=H') ⟨Nat.le_refl _,by simp[lk],rfl⟩ ?_ ?_ ?_⟩
     ·rintro i ys H' hi ⟨hv,_,rfl⟩;exact⟨SqT.of hpe,by omega⟩
     ·rintro i x ys H' hx ⟨hv,hf,rfl⟩;obtain⟨⟨y1,y2⟩,hy,a',u,rfl,ha',hau⟩:=hb.get hx;refine⟨_,rfl,(ixT ha' rfl ⟨_,rfl,(ixT ha4 rfl (.inl ⟨rfl,_,rfl,F9 (λc=>⟨_,rfl,(ixT ha' rfl ⟨?_,λm hm=> ?_,rfl⟩)⟩) (λc=>⟨by omega,λm hm=> ?_,rfl⟩)⟩))⟩)⟩
      ·rw[length_append];simp only[length_cons,length_nil];omega
      ·have ec:y1=z:=by have:=of_decide_eq_true c;injection this
       rw[_B.take_one hy,CB,if_pos ec]at hm;cases hm;exact⟨ys,u,rfl,hau⟩
      ·have ec:¬y1=z:=λz=>c (by rw[z];exact decide_eq_true rfl);rw[_B.take_one hy,CB,if_neg ec]at hm;exact hf m hm
     rintro ys H' ⟨hv,hf,rfl⟩ r hr0;rw[<-hbl,take_of_length_le (Nat.le_refl _)]at hf;obtain⟨pre',u,rfl,hu1⟩:=hf _ hn;exact⟨1,rfl,(ixL A2 (BY _ _) ⟨_,rfl,A1 hr0 _,.inr (hu1.mono (A4 (A1 hr0 _)))⟩)⟩
  rintro _ H5 ⟨x,rfl,s5,hx⟩;show Nx _ _;subst eN;refine stp λNx eN=> ?_;refine⟨fun σ' H'=>∃x,σ'=[some gv,some (.ref p),some (.int most),some (.ref a),some ev,some (.str (tmW t)),some x,none,none]/\Same H4 H'/\V1 H' v x, ?_, ?_⟩
  ·have nf:(∀z b,t≠ .fn z b)->V1 H5 v x:=λn=>hx.resolve_left λ⟨z,b,e⟩=>n z b e;cases hv with
   | @fn z b=>
    cases ht4 with
    | @fn _ _ _ u h hb=>
     rw[ha4]at h;cases h;refine⟨_,rfl,.inl ⟨rfl,_,rfl,ifT rfl ⟨_,rfl,_,rfl,K0,λb3 hb3=> .inr (NH ((s5.trans (A1 hb3 _)) _ _ ha4) A2 (by show 3<=100000;decide) λr H6 s6 hr6=> ?_)⟩⟩⟩;obtain⟨pe,us,rfl,hpe,hev⟩:=he4;have sA:=s5.trans ((A1 hb3 (.tup [.ref pe])).trans s6);exact⟨_,rfl,sA,.fn hr6 (hb.mono (A4 sA)) (sA _ _ hpe) (hev.mono (A4 sA))⟩
   |num|tru|non|name=>exact⟨_,rfl,.inl ⟨rfl,_,rfl,ifF nZ ⟨_,rfl,s5,nf λ_ _ e=>nomatch e⟩⟩⟩
  rintro _ H6 ⟨x,rfl,s6,hx⟩;show Nx _ _;subst eN;refine stp λNx eN=> ?_;refine⟨_,rfl,rfl,_,rfl,ifT (by rw[decide_eq_false hx.ne_non];rfl) ?_⟩;refine⟨_,rfl,C5,λa1 ha1=>⟨K0,λa2 ha2=> ?_⟩⟩;have s7:=A1 ha1 (.tup [.str "value",x]);have s8:=A1 ha2 (.tup [.ref a1]);have s68:=s6.trans (s7.trans s8);refine⟨_,rfl,_,rfl,.inr ⟨p,_,rfl,SqT.of (s68 _ _ hp4),E3 (by decide) (succ_pos _) _,λa3 ha3=> ?_⟩⟩;have s9:=A1 ha3 (.tup [lv,.int calls,.int deep]);refine .inr (.inl ⟨a2,a3,[.ref a1],[lv,.int calls,.int deep],rfl,rfl,SqT.of (s9 _ _ A2),SqT.of A2,cons_ne_nil _ _,(by show 4<=sizeLine;decide),λz=>absurd z (cons_ne_nil _ _),λ_ r hr0=> ?_⟩);have s10:=A1 hr0 (.tup [.ref a1,lv,.int calls,.int deep]);have sA:=s4.trans (s68.trans (s9.trans s10));exact q _ _ sA ⟨r,.ref a1,lv,rfl,A2,.val ((s8.trans (s9.trans s10)) _ _ A2) (hx.mono (A4 (s7.trans (s8.trans (s9.trans s10))))),hl.mono (A4 sA)⟩
 | @call0 z dn _ _ _ _ hd hp0=>
  cases ht4 with
  | @call _ _ _ p2 us hpc hp2 hrw=>
   cases hrw;rw[ha4]at hpc;cases hpc;refine BH ⟨_,rfl,.inl ⟨rfl,_,rfl,ifF nZ ?_⟩⟩;show Nx _ _;subst eN;refine stp λNx eN=> ?_;refine BH ⟨_,rfl,.inl ⟨rfl,_,rfl,ifF nZ ?_⟩⟩;show Nx _ _;subst eN;refine stp λNx eN=> ?_;refine⟨_,rfl,rfl,_,rfl,ifF nZ ?_⟩;show Nx _ _;subst eN;refine stp λNx eN=> ?_;refine BH ?_;refine⟨_,rfl,(ixT ha4 hat (.inl ⟨rfl,_,rfl,ifT rfl ⟨_,rfl,(ixT ha4 rfl ⟨zero_le _,λb3 hb3=>HM (A1 hb3 _ _ _ hp2) A2 ⟨_,rfl,ifT rfl ?_⟩⟩)⟩⟩))⟩;have s5:=A1 hb3 (.tup []);obtain⟨pg,gus,rfl,hpg,hgD⟩:=hg4.mono (A4 s5);refine⟨_,rfl,_,rfl,(ixT (s5 _ _ hp4) rfl ⟨_,rfl,_,rfl,pg,rfl,⟨gus,SqT.of hpg⟩,DW (E:=λdi u=>T1 (upd H4 b3 (.tup [])) di.body u) hpg hgD hgl hd ?_ ?_⟩)⟩
   ·rintro x di ys Pv ⟨pa,pq,pt',rfl,h1,h2,h3⟩ hy hn;exact⟨_,rfl,(ixT h1 rfl ⟨_,rfl,(ixT (s5 _ _ ha4) rfl (.inl ⟨rfl,_,rfl,F9 (λc=>⟨_,rfl,(ixT h1 rfl (hy (by have:=of_decide_eq_true c;injection this) _ h3))⟩) (λc=>hn λe=>c (by rw[e];exact decide_eq_true rfl))⟩))⟩)⟩
   intro u rs hu r hr0;have s6:=s5.trans (A1 hr0 (.lst (u::rs)));refine(ixL A2 (show atI (u::rs) ((0:Nat):Int)=some u from D5 rfl) ⟨zero_le _,λb4 hb4=> ?_⟩);have s7:=s6.trans (A1 hb4 (.tup []));exact⟨dn.body,.nil,pile,calls,deep,most,.ref pt,lv,u,.ref b4,lv,p,rfl,s7 _ _ hp4,hu.mono (A4 ((A1 hr0 _).trans (A1 hb4 _))),⟨b4,[],rfl,A2,.nil⟩,hl4.mono (A4 s7),hz,λv H' sm h=>q _ _ (s4.trans (s7.trans sm)) h⟩
 | @wait _ _ t1 fr _ _ _ hx=>
  have hw3:¬(!decide ((R0 (L8 [] [(.inr "number",lst),(.inr "truth",lst),(.inr "none",.ref b2)]) (.inr (tmW t))).getD .non=.non))=true:=by cases hx<;>exact nZ
  have hw4:(R0 (L8 [] [(.inr "number",lst),(.inr "truth",lst),(.inr "none",.ref b2)]) (.inr (tmW t))).getD .non=.non:=by cases hx<;>rfl
  obtain⟨hn1,hn2⟩:¬decide (V.str (tmW t)=V.str "name")=true/\¬decide (V.str (tmW t)=V.str "fn")=true:=by cases hx<;>exact⟨nZ,nZ⟩
  obtain⟨fv1,y0,wr,hrest,hwl,hfv,hcall,hone,htl,hel⟩:∃(fv1 y0:V) (wr:List V),rest=y0::wr/\wr.length<=2/\
    atI (V.str (tmW t)::rest) (1+(if inV (.str (tmW t)) [.str "two",.str "one",.str "let",.str "call"]=true then 1 else 0))=some fv1/\
    (decide (V.str (tmW t)=V.str "call")=true->∃(z:Str) (q:Addr) (u:V) (us:List V),y0=.str z/\wr=[.ref q]/\H4 q=some (.tup (u::us))/\T1 H4 t1 u/\∀H2 b b3 r,Same H4 H2->H2 b=some (.tup [])->H2 b3=some (.tup us)->H2 r=some (.tup [.str "call",.str z,.ref b,.ref b3,ev])->FA H2 fr (.ref r))/\
    (decide (V.str (tmW t)=V.str "one")=true->∃z:Str,y0=.str z/\fr=.one z/\T1 H4 t1 fv1)/\
    (inV (.str (tmW t)) [.str "two",.str "let"]=true->∃(z:Str) (u w1:V),y0=.str z/\wr=[u,w1]/\T1 H4 t1 fv1/\∀H2 r,Same H4 H2->H2 r=some (.tup [.str (tmW t),.str z,w1,ev])->FA H2 fr (.ref r))/\
    (¬decide (V.str (tmW t)=V.str "call")=true->¬decide (V.str (tmW t)=V.str "one")=true->¬inV (.str (tmW t)) [.str "two",.str "let"]=true->T1 H4 t1 fv1/\∀H2 r,Same H4 H2->H2 r=some (.tup (.str (tmW t)::wr++ [ev]))->FA H2 fr (.ref r)):=by
   have c0:∀ {A:Prop},¬(false=true)->(false=true->A):=λh e=>absurd e h;have nf:=nZ;clear q hw3 hw4 hn1 hn2 epre hlast;cases hx with
   |two=>cases ht4 with
    |two h h1 h2=>rw[ha4]at h;cases h;exact⟨_,_,_,rfl,by simp,rfl,c0 nf,c0 nf,λ_=>⟨_,_,_,rfl,rfl,h1,λH2 r m hr=> .two hr (h2.mono (A4 m)) (he4.mono (A4 m))⟩,λ_ _ x=>absurd rfl x⟩
   |one=>cases ht4 with
    |one h h1=>rw[ha4]at h;cases h;exact⟨_,_,_,rfl,by simp,rfl,c0 nf,λ_=>⟨_,rfl,rfl,h1⟩,c0 nf,λ_ x _=>absurd rfl x⟩
   |ite=>cases ht4 with
    |ite h h1 h2 h3=>rw[ha4]at h;cases h;exact⟨_,_,_,rfl,by simp,rfl,c0 nf,c0 nf,c0 nf,λ_ _ _=>⟨h1,λH2 r m hr=> .ite hr (h2.mono (A4 m)) (h3.mono (A4 m)) (he4.mono (A4 m))⟩⟩
   |let_=>cases ht4 with
    |let_ h h1 h2=>rw[ha4]at h;cases h;exact⟨_,_,_,rfl,by simp,rfl,c0 nf,c0 nf,λ_=>⟨_,_,_,rfl,rfl,h1,λH2 r m hr=> .let_ hr (h2.mono (A4 m)) (he4.mono (A4 m))⟩,λ_ _ x=>absurd rfl x⟩
   |do_=>cases ht4 with
    |do_ h h1 h2=>rw[ha4]at h;cases h;exact⟨_,_,_,rfl,by simp,rfl,c0 nf,c0 nf,c0 nf,λ_ _ _=>⟨h1,λH2 r m hr=> .do_ hr (h2.mono (A4 m)) (he4.mono (A4 m))⟩⟩
   |call=>cases ht4 with
    |call h h1 h2=>cases h2 with
     |cons hu' hus'=>rw[ha4]at h;cases h;exact⟨_,_,_,rfl,by simp,rfl,λ_=>⟨_,_,_,_,rfl,rfl,h1,hu',λH2 b b3 r m hb hb3 hr=> .call hr hb .nil hb3 ((TA.row hus').imp λ_ _ h=>h.mono (A4 m)) (he4.mono (A4 m))⟩,c0 nf,c0 nf,λx _ _=>absurd rfl x⟩
  clear hx ht ht4;refine BH ⟨_,rfl,.inl ⟨rfl,_,rfl,ifF hn1 ?_⟩⟩;show Nx _ _;subst eN;refine stp λNx eN=> ?_;refine BH ⟨_,rfl,.inl ⟨rfl,_,rfl,ifF hn2 ?_⟩⟩;show Nx _ _;subst eN;refine stp λNx eN=> ?_;refine⟨_,rfl,rfl,_,rfl,ifF hw3 ?_⟩;rw[hw4];show Nx _ _;subst eN;refine stp λNx eN=> ?_;refine⟨fun σ' H'=>σ'=[some gv,some (.ref p),some (.int most),some (.ref a),some ev,some (.str (tmW t)),some .non,none,none]/\Same H4 H', ?_, ?_⟩
  ·refine⟨_,rfl,(ixT ha4 hat (.inl ⟨rfl,_,rfl,F9 (λc=> ?_) (λc=>ifF nZ ⟨rfl,Same.refl _⟩)⟩))⟩;obtain⟨z,q2,u,us,rfl,rfl,hq2,_⟩:=hcall c;exact⟨_,rfl,(ixT ha4 (by rw[hrest];rfl) ⟨zero_le _,λb3 hb3=>HM (A1 hb3 _ _ _ hq2) A2 ⟨_,rfl,ifF nZ ⟨rfl,A1 hb3 _⟩⟩⟩)⟩
  rintro _ H5 ⟨rfl,s5⟩;show Nx _ _;subst eN;refine stp λNx eN=> ?_;refine⟨fun σ' H'=>σ'=[some gv,some (.ref p),some (.int most),some (.ref a),some ev,some (.str (tmW t)),some .non,some fv1,none]/\Same H4 H', ?_, ?_⟩
  ·exact⟨_,rfl,_,rfl,P2,λb hb=> .inr (.inl ⟨b,_,rfl,.inr (SqT.of A2),rfl,rfl,.inl ⟨_,rfl,.inl ⟨_,_,rfl,rfl,(ixT (A1 hb _ _ _ (s5 _ _ ha4)) hfv ⟨rfl,s5.trans (A1 hb _)⟩)⟩⟩⟩)⟩
  rintro _ H6 ⟨rfl,s6⟩;show Nx _ _;subst eN;refine stp λNx eN=> ?_;refine⟨fun σ' H'=>∃(wp:Addr),σ'=[some gv,some (.ref p),some (.int most),some (.ref a),some ev,some (.str (tmW t)),some .non,some fv1,some (.ref wp)]/\Same H4 H'/\H' wp=some (.tup (.str (tmW t)::wr)), ?_, ?_⟩
  ·refine⟨_,rfl,K0,λb hb=>⟨_,rfl,_,rfl,.inr ⟨a,_,rfl,SqT.of (A1 hb _ _ _ (s6 _ _ ha4)),E3 (by decide) (succ_pos _) _,λb3 hb3=> .inr (.inl ?_)⟩⟩⟩;rw[show P3 (V.str (tmW t)::rest) (some 2) none=wr by rw[hrest];exact afZ _ _ _];exact FH (A1 hb3 _ _ _ A2) A2 (by omega) λr H7 s7 hr7=>⟨r,rfl,s6.trans (((A1 hb _).trans (A1 hb3 _)).trans s7),hr7⟩
  rintro _ H7 ⟨wp,rfl,s7,hwp⟩;show Nx _ _;subst eN;refine stp λNx eN=> ?_;refine⟨fun σ' H'=>∃(wp:Addr) (ws:List V),σ'=[some gv,some (.ref p),some (.int most),some (.ref a),some ev,some (.str (tmW t)),some .non,some fv1,some (.ref wp)]/\Same H4 H'/\H' wp=some (.tup ws)/\(decide (V.str (tmW t)=V.str "call")=true\/decide (V.str (tmW t)=V.str "one")=true\/(ws.length<=3/\T1 H4 t1 fv1/\∀H2 q,Same H4 H2->H2 q=some (.tup (ws++ [ev]))->FA H2 fr (.ref q))), ?_, ?_⟩
  ·refine⟨_,rfl,C5,λb hb=> .inr (.inl ⟨b,_,rfl,.inr (SqT.of A2),rfl,rfl,_,rfl,F9 (λc=> ?_) (λc=>⟨wp,_,rfl,s7.trans (A1 hb _),A1 hb _ _ _ hwp, ?_⟩)⟩)⟩
   ·obtain⟨z,u,w1,rfl,rfl,hT,hF⟩:=htl c;have ha7:=(s7.trans (A1 hb (.tup [.str "two",.str "let"]))) _ _ ha4;exact BH ⟨_,rfl,_,rfl,(ixT ha7 (by rw[hrest];rfl) ⟨_,rfl,(ixT ha7 (by rw[hrest];rfl) ⟨C7,λc hc=>⟨c,_,rfl,s7.trans ((A1 hb _).trans (A1 hc _)),A2,.inr (.inr ⟨by simp,hT,λH2 q m hq=>hF H2 q m hq⟩)⟩⟩)⟩)⟩
   ·by_cases h1:decide (V.str (tmW t)=V.str "call")=true
    ·exact .inl h1
    ·by_cases h2:decide (V.str (tmW t)=V.str "one")=true
     ·exact .inr (.inl h2)
     ·exact .inr (.inr ⟨by simp only[length_cons];omega,(hel h1 h2 c).1,(hel h1 h2 c).2⟩)
  rintro _ H8 ⟨wp,ws,rfl,s48,hwp,hws⟩;have hp8:=s48 _ _ hp4;have ha8:=s48 _ _ ha4;have hl8:=hl4.mono (A4 s48);have he8:=he4.mono (A4 s48);have q8:∀u H',Same H8 H'->ReA H' (.st ⟨.term t1 e,fr::pile,calls,deep⟩) u->Q u H':=λu H' sm h=>q u H' (s4.trans (s48.trans sm)) h;show Nx _ _;subst eN;refine stp λNx eN=> ?_;refine⟨_,rfl,.inl ⟨rfl,_,rfl,F9 (λc1=> ?_) (λc1=> ?_)⟩⟩
  ·obtain⟨sg1,rfl,rfl,hT⟩:=hone c1;refine⟨_,rfl,_,rfl,C7,λa1 ha1=> ?_⟩;have e1:=A1 ha1 (.tup [.str "term",fv1,ev]);refine⟨_,rfl,(ixT (e1 _ _ hp8) rfl ⟨_,rfl,(ixT (e1 _ _ ha8) (by rw[hrest];exact D5 (j:=1) rfl) ⟨C5,λa2 ha2=>⟨K0,λa3 ha3=> ?_⟩⟩)⟩)⟩;have e2:=e1.trans ((A1 ha2 (.tup [.str "one",.str sg1])).trans (A1 ha3 (.tup [.ref a2])));refine .inr (P4 (fr:=.one _) (hl8.mono (A4 e2)) (.one (A1 ha3 _ _ _ A2)) A2 (by omega) λpv H9 s9 hp9=>⟨C5,λa4 ha4=> ?_⟩);have e4:=e2.trans (s9.trans (A1 ha4 (.tup [.ref a1,pv])));refine⟨_,rfl,_,rfl,.inr ⟨p,_,rfl,SqT.of (e4 _ _ hp8),E3 (by decide) (succ_pos _) _,λa5 ha5=> ?_⟩⟩;have e5:=A1 ha5 (.tup [.int calls,.int deep]);refine .inr (.inl ⟨a4,a5,[.ref a1,pv],[.int calls,.int deep],rfl,rfl,SqT.of (e5 _ _ A2),SqT.of A2,cons_ne_nil _ _,(by show 4<=sizeLine;decide),λz=>absurd z (cons_ne_nil _ _),λ_ r hr0=> ?_⟩);have e6:=A1 hr0 (.tup [.ref a1,pv,.int calls,.int deep]);have eA:=e4.trans (e5.trans e6);have e26:=((A1 ha2 (.tup [.str "one",.str sg1])).trans (A1 ha3 (.tup [.ref a2]))).trans (s9.trans ((A1 ha4 (.tup [.ref a1,pv])).trans (e5.trans e6)));exact q8 _ _ eA ⟨r,.ref a1,pv,rfl,A2,.term (e26 _ _ A2) (hT.mono (A4 (s48.trans eA))) (he8.mono (A4 eA)),hp9.mono (A4 ((A1 ha4 _).trans (e5.trans e6)))⟩
  show Nx _ _;subst eN;refine stp λNx eN=> ?_;refine⟨fun σ' H'=>∃(fv2:V) (wp:Addr) (ws:List V),σ'=[some gv,some (.ref p),some (.int most),some (.ref a),some ev,some (.str (tmW t)),some .non,some fv2,some (.ref wp)]/\Same H8 H'/\H' wp=some (.tup ws)/\T1 H' t1 fv2/\ws.length<=4/\∀H2 q,Same H' H2->H2 q=some (.tup (ws++ [ev]))->FA H2 fr (.ref q), ?_, ?_⟩
  ·refine⟨_,rfl,.inl ⟨rfl,_,rfl,F9 (λc2=> ?_) (λc2=> ?_)⟩⟩
   ·obtain⟨sg1,p2,u,us',rfl,rfl,hq2,hu',hF⟩:=hcall c2;have h1:=s48 _ _ hq2;refine BH ⟨_,rfl,(ixT ha8 (by rw[hrest];rfl) (ixT h1 (show atI (u::us') ((0:Nat):Int)=some u from D5 rfl) ?_))⟩;refine BH ⟨_,rfl,(ixT ha8 (by rw[hrest];rfl) ⟨zero_le _,λb hb=>⟨_,rfl,(ixT (A1 hb _ _ _ ha8) (by rw[hrest];rfl) ⟨_,rfl,.inr ⟨p2,_,rfl,SqT.of (A1 hb _ _ _ h1),E3 (by decide) (succ_pos _) _,λb3 hb3=>⟨P2,λc hc=> ?_⟩⟩⟩)⟩⟩)⟩;rw[show P3 (u::us') (some 1) none=us' by exact Y6 _ _]at hc⊢;have e1:=A1 hb (.tup []);have e2:=A1 hb3 (.tup us');have e3:=A1 hc (.tup [.str "call",.str sg1,.ref b,.ref b3]);have e13:=e1.trans (e2.trans e3);exact⟨u,c,_,rfl,e13,A2,hu'.mono (A4 (s48.trans e13)),by simp,λH2 q m hq=>hF H2 b b3 q (s48.trans (e13.trans m)) (m _ _ ((e2.trans e3) _ _ A2)) (m _ _ (e3 _ _ A2)) hq⟩
   ·obtain⟨hw,hT,hF⟩:=(hws.resolve_left c2).resolve_left c1;exact⟨fv1,wp,ws,rfl,Same.refl _,hwp,hT.mono (A4 s48),by omega,λH2 q m hq=>hF H2 q (s48.trans m) hq⟩
  rintro _ H9 ⟨fv2,wp,ws,rfl,s9,hwp,hfv2,hwl2,hFr⟩;show Nx _ _;subst eN;refine⟨_,rfl,_,rfl,C7,λa1 ha1=> ?_⟩;have e1:=A1 ha1 (.tup [.str "term",fv2,ev]);have e01:=s9.trans e1;refine⟨_,rfl,(ixT (e01 _ _ hp8) rfl ⟨_,rfl,_,rfl,K0,λa2 ha2=> .inr (NH (A1 ha2 _ _ _ (e1 _ _ hwp)) A2 (by omega) λwq H10 s10 hwq=>⟨K0,λa3 ha3=> ?_⟩)⟩)⟩;have e2:=(A1 ha2 (.tup [ev])).trans s10;have e3:=A1 ha3 (.tup [.ref wq]);have e13:=e01.trans (e2.trans e3);refine .inr (P4 (fr:=fr) (hl8.mono (A4 e13)) (hFr _ _ (e1.trans (e2.trans e3)) (e3 _ _ hwq)) A2 (by omega) λpv H11 s11 hp11=>⟨C5,λa4 ha4=> ?_⟩);have e4:=e13.trans (s11.trans (A1 ha4 (.tup [.ref a1,pv])));refine⟨_,rfl,_,rfl,.inr ⟨p,_,rfl,SqT.of (e4 _ _ hp8),E3 (by decide) (succ_pos _) _,λa5 ha5=> ?_⟩⟩;have e5:=A1 ha5 (.tup [.int calls,.int deep]);refine .inr (.inl ⟨a4,a5,[.ref a1,pv],[.int calls,.int deep],rfl,rfl,SqT.of (e5 _ _ A2),SqT.of A2,cons_ne_nil _ _,(by show 4<=sizeLine;decide),λz=>absurd z (cons_ne_nil _ _),λ_ r hr0=> ?_⟩);have e6:=A1 hr0 (.tup [.ref a1,pv,.int calls,.int deep]);have eA:=e4.trans (e5.trans e6);have e26:=(e2.trans e3).trans (s11.trans ((A1 ha4 (.tup [.ref a1,pv])).trans (e5.trans e6)));exact q8 _ _ eA ⟨r,.ref a1,pv,rfl,A2,.term (e26 _ _ A2) (hfv2.mono (A4 (e1.trans e26))) (he8.mono (A4 eA)),hp11.mono (A4 ((A1 ha4 _).trans (e5.trans e6)))⟩
end
noncomputable abbrev S6:Stmt:=_B.top 55
noncomputable abbrev CF:List Str:=["_law_program_here","_law_state","_law_most","_law_value","_law_pile","_law_wait","_law_kind_here","_law_told","_law_values","_law_one","_law_left"]
theorem sc_law_of_value:FnScope CF LX (B3 S6):=fS
theorem BU{K:FZ}{H:Hp}{p a4:Addr}{fv lv x y:V}{calls deep:Int}{Q:VK}(hp:H p=some (.tup [fv,lv,.int calls,.int deep]))(h4:H a4=some (.tup [x,y]))
  (go:∀r H',Same H H'->H' r=some (.tup [x,y,.int calls,.int deep])->Q (.ref r) H'):(λx lo hi H Q=>rSlL K x lo hi H Q\/rSlT K x lo hi H Q) (.ref p) (some 2) none H λv H1=>(λx y H Q=>rI0 (λi j=> .int (i+j)) x y H Q\/GN K x y H Q\/FU K x y H Q) (.ref a4) v H1 Q:=by
 refine .inr ⟨p,_,rfl,SqT.of hp,E3 (by decide) (succ_pos _) _,λa5 ha5=> ?_⟩;have e5:=A1 ha5 (.tup [.int calls,.int deep]);refine .inr (.inl ⟨a4,a5,[x,y],[.int calls,.int deep],rfl,rfl,SqT.of (e5 _ _ h4),SqT.of A2,cons_ne_nil _ _,(by show 4<=sizeLine;decide),λz=>absurd z (cons_ne_nil _ _),λ_ r hr0=> ?_⟩);exact go _ _ (e5.trans (A1 hr0 _)) A2
section
variable{P:Program}{w:World}{K:FZ}{mg:Str->Option Value}{base:Heap}{f:Addr}{fd:FuncData}{OA ZL:Addr}{OC ZF:FuncData}
inductive spLVW(vs:List V)(H:Hp)(Q:VK):Prop
 |mk:∀(v:Vl) (fr:Fr) (r0:List Fr) (c d:Int) (r:Res) (D:List Dn) (most:Int) (gv sv:V),(vs=[gv,sv,.int most])->(StA H ⟨.val v,fr::r0,c,d⟩ sv)->(PgA H D gv)->(D.length<=1000)->(r0.length<=10000)->(OQ fr)->(bdF fr)->(BdV v)->((∀r,v=.lst r->L7 r<=10000))->(Stp D most ⟨.val v,fr::r0,c,d⟩ r)->(∀u H',Same H H'->ReA H' r u->Q u H')->spLVW vs H Q
noncomputable def csZ:Sp:=λvs H Q _=>spLVW vs H Q
theorem ok_law_of_value(F:Fun K "_law_of_value" "_law_of_value" S6 f fd)(B:NoL mg)
  (Q5:Cn P w K mg base CX0 1 "_law_into" aaZ bNZ)
  (Z0:Cn P w K mg base CX0 1 "_law_outcome" bxZ LH):
  FnOk P w K mg base CX0 2 f fd LX csZ:=by
 refine F.ok sc_law_of_value (λvs H Q E h=> ?_) (λcdv A outer s H vs Q E hr h=> ?_)
 ·obtain⟨v,fr,r0,c,d,r,D,most,gv,sv,rfl,_⟩:=h;rfl
 obtain⟨v,fr,r0,calls,deep,r,D,most,gv,sv,rfl,⟨p,fv,lv,rfl,hp,hf,hl⟩,hg,hgl,hz,hen,hbf,hbv,hlv,hst,q⟩:=h;have hp:H p=some (.tup [fv,lv,.int calls,.int deep]):=hp;have hf0:=hf;obtain⟨pt,xv,rfl,hpt,hx⟩:∃p u,fv=.ref p/\H p=some (.tup [.str "value",u])/\V1 H v u:=by
  cases hf with
  |val h1 h2=>exact⟨_,_,rfl,h1,h2⟩
 obtain⟨lp,us,rfl,hlp,hus⟩:=hl;obtain⟨u0,u,rfl,hu0,hfr⟩:=JR hus;have nd:=sc_law_of_value.nd;have hu:=hr.units0;refine⟨_,(A6 (sS 3 nd (ixE K w (ixE K w (pv 1) A3) A3))
   (A6 (Z7 (A8 (A0 (C2 (kSl (K:=K)) (ixE K w (pv 1) A3) C9 (C6 (EY AJ A3))) (A0 (ixE K w (ixE K w (pv 1) A3) (EY AJ A3)) A5))) (FQ rfl (O4 (gN 4 nd) (O4 (EV (i:=5) nd rfl (Or.inr rfl)) CK))))
   (A6 (sS 6 nd (ixE K w (pv 5) A3))
   (A6 (B7 (B0 (kEq (K:=K) hu) (pv 6) A7 rfl) (A9 (B4 (A8 (A0 (ixE K w (pv 1) A3) (A0 (pv 4) (A0 (ixE K w (pv 1) A3) (A0 (B5 T4 (ixE K w (pv 1) A3) A3) A5))))))) B6)
   (A6 (B7 (B0 (kEq (K:=K) hu) (pv 6) A7 rfl) (A9 (B4 (cC Q5 hr (A0 (pv 1) (A0 (pv 4) (A0 (pv 2) (A0 (ixE K w (ixE K w (pv 5) A3) A3) (A0 (B5 (E4 (K:=K)) (ixE K w (ixE K w (pv 5) A3) A3) (A8 (A0 (A8 (A0 (ixE K w (ixE K w (pv 5) A3) A3) (A0 (pv 3) A5))) A5))) A5)))))))) B6)
   (A6 (D7 (B7 (PW.pt (IT (B0 (kEq (K:=K) hu) (pv 6) A7 rfl) (FL (B0 (kEq (K:=K) hu) (pv 6) A7 rfl)))) (A6 (sS 7 nd (cC Z0 hr (A0 (pv 5) (A0 (pv 3) A5))))
   (A9 (B4 (Y0 (B0 (kEq (K:=K) hu) (ixE K w (pv 7) A3) A7 rfl) (pv 7) (B5 (E4 (K:=K)) (A8 (A0 (pv 7) (A0 (pv 4) A5))) (C2 (kSl (K:=K)) (pv 1) (C6 A3) C9)))))) B6))
   (A6 (B7 (B0 (kEq (K:=K) hu) (pv 6) A7 rfl) (A9 (B4 (B5 (E4 (K:=K)) (A8 (A0 (A8 (A0 A7 (A0 (ixE K w (pv 5) A3) (A0 (ixE K w (pv 5) A3) A5)))) (A0 (B5 (E4 (K:=K)) (pv 4) (A8 (A0 (A8 (A0 A7 (A0 (ixE K w (pv 5) A3) (A0 (pv 3) A5)))) A5))) A5))) (C2 (kSl (K:=K)) (pv 1) (C6 A3) C9)))) B6)
   (A6 (B7 (B0 (kEq (K:=K) hu) (pv 6) A7 rfl) (A9 (B4 (B5 (E4 (K:=K)) (A8 (A0 (A8 (A0 A7 (A0 (ixE K w (pv 5) A3) (A0 (ixE K w (pv 5) A3) A5)))) (A0 (B5 (E4 (K:=K)) (pv 4) (A8 (A0 (A8 (A0 A7 (A0 (pv 3) A5))) A5))) A5))) (C2 (kSl (K:=K)) (pv 1) (C6 A3) C9)))) B6)
   (A6 (B7 (B0 (kEq (K:=K) hu) (pv 6) A7 rfl) (A9 (B4 (B5 (E4 (K:=K)) (A8 (A0 (A8 (A0 A7 (A0 (Y0 (N5 (K:=K) (pv 3) (λ_=>rfl)) (ixE K w (pv 5) A3) (ixE K w (pv 5) A3)) (A0 (ixE K w (pv 5) A3) A5)))) (A0 (pv 4) A5))) (C2 (kSl (K:=K)) (pv 1) (C6 A3) C9)))) B6)
   (A6 (B7 (B0 (kEq (K:=K) hu) (pv 6) A7 rfl) (A9 (B4 (B5 (E4 (K:=K)) (A8 (A0 (A8 (A0 A7 (A0 (ixE K w (pv 5) A3) (A0 (B5 (E4 (K:=K)) (ixE K w (pv 5) A3) (A8 (A0 (A8 (A0 (ixE K w (pv 5) A3) (A0 (pv 3) A5))) A5))) A5)))) (A0 (pv 4) A5))) (C2 (kSl (K:=K)) (pv 1) (C6 A3) C9)))) B6)
   (A6 (sS 8 nd (B5 (E4 (K:=K)) (ixE K w (pv 5) A3) (A8 (A0 (pv 3) A5))))
   (A6 (B7 (B0 (CO (K:=K) hr.units) (ixE K w (pv 5) A3) (A8 A5) rfl) (A6 (sS 9 nd (ixE K w (U2 (cS (N:=CF) (sc:=B3 S6) (caps:=[5]) (ns:=["_law_wait"])) rfl rfl rfl (DZ (K:=K) (pv 0)) (λ_ _ _ _ _=>(U6 (B0 (kEq (K:=K) hu) (ixE K w (pv 0) A3) (ixE K w (pv 1) A3) rfl))) (λ_ _ _ _ _=>(pv 0))) A3))
   (A9 (B4 (cC Q5 hr (A0 (pv 1) (A0 (pv 4) (A0 (pv 2) (A0 (ixE K w (pv 9) A3) (A0 (F6 (AT (K:=K)) rfl B.tuple_ M6 (A0 (CA (K:=K) rfl B.zip_ rfl B.list_ rfl (A0 (ixE K w (pv 9) A3) (A0 (pv 8) A5))) A5)) A5))))))))) B6)
   (A6 (sS 10 nd (A8 (A0 A7 (A0 (ixE K w (pv 5) A3) (A0 (pv 8) (A0 (C2 (kSl (K:=K)) (ixE K w (pv 5) A3) (C6 A3) C9) (A0 (ixE K w (pv 5) A3) A5)))))))
   (A9 (B4 (B5 (E4 (K:=K)) (A8 (A0 (A8 (A0 A7 (A0 (ixE K w (ixE K w (pv 5) A3) A3) (A0 (ixE K w (pv 5) A3) A5)))) (A0 (B5 (E4 (K:=K)) (pv 4) (A8 (A0 (pv 10) A5))) A5))) (C2 (kSl (K:=K)) (pv 1) (C6 A3) C9))))))))))))))))), ?_⟩
 refine⟨_,rfl,(ixT hp rfl (ixT hpt rfl ?_))⟩;refine⟨_,rfl,(ixT hp rfl ⟨1,rfl,_,rfl,.inr ⟨lp,_,rfl,SqT.of hlp,NI,λa1 ha1=> ?_⟩⟩)⟩;rw[HE];have s1:=A1 ha1 (.tup u0);refine⟨_,rfl,(ixT (s1 _ _ hp) rfl ⟨1,rfl,(ixT (s1 _ _ hlp) (BY _ _) ⟨C5,λa2 ha2=>⟨a2,_,rfl,SqT.of A2,rfl,_,_,rfl,_,_,rfl,rfl, ?_⟩⟩)⟩)⟩;have s2:=A1 ha2 (.tup [.ref a1,u]);have s12:=s1.trans s2;have hp4:=s12 _ _ hp;have hfr4:=hfr.mono (A4 s12);have hx4:=hx.mono (A4 s12);have hf4:=hf0.mono (A4 s12);have hg4:=hg.mono (A4 s12);have hl4:PiA (upd (upd H a1 (.tup u0)) a2 (.tup [.ref a1,u])) r0 (.ref a1):=⟨a1,u0,rfl,s2 _ _ A2,hu0.imp λ_ _ h=>h.mono (A4 s12)⟩;have q4:∀u' H',Same (upd (upd H a1 (.tup u0)) a2 (.tup [.ref a1,u])) H'->ReA H' r u'->Q u' H':=λu' H' sm h=>q u' H' (s12.trans sm) h;show S9 _ _ _ [some gv,some (.ref p),some (.int most),some xv,some (.ref a1),some u,none,none,none,none,none] (upd (upd H a1 (.tup u0)) a2 (.tup [.ref a1,u]));generalize upd (upd H a1 (.tup u0)) a2 (.tup [.ref a1,u])=H4 at hp4 hfr4 hx4 hf4 hg4 hl4 q4⊢;obtain⟨a,rest,rfl,ha⟩:=hfr4.word;have hat:atI (V.str (frW fr)::rest) ((0:Nat):Int)=some (.str (frW fr)):=D5 rfl;refine⟨_,rfl,(ixT ha hat ?_)⟩;cases hst with
 |back=>
  refine⟨_,rfl,.inl ⟨rfl,_,rfl,ifT rfl (?_)⟩⟩;exact⟨_,rfl,(ixT hp4 rfl ⟨_,rfl,_,rfl,(ixT hp4 rfl ⟨_,rfl,(ixT hp4 rfl ⟨_,_,rfl,rfl,P2,λa5 ha5=>q4 _ _ (A1 ha5 _) ⟨a5,.ref pt,.ref a1,rfl,A2,hf4.mono (A4 (A1 ha5 _)),hl4.mono (A4 (A1 ha5 _))⟩⟩)⟩)⟩)⟩
 | @with_ z b e _ _ _ _=>
  refine⟨_,rfl,.inl ⟨rfl,_,rfl,ifF nZ (⟨_,rfl,.inl ⟨rfl,_,rfl,ifT rfl (?_)⟩⟩)⟩⟩;cases hfr4 with
  | @with_ _ _ uf h hv=>
   rw[ha]at h;cases h;cases hv with
   | @fn _ _ _ pf qe tb es hpf hb hqe hev=>
    have hen:L7 e<=1000:=hen;refine⟨_,rfl,_,rfl,_,rfl,_,rfl,(ixT ha rfl (ixT hpf rfl ⟨_,rfl,(ixT ha rfl (ixT hpf rfl ⟨_,rfl,(ixT ha rfl (ixT hpf rfl ⟨_,rfl,C5,λb1 hb1=>⟨K0,λb2 hb2=> ?_⟩⟩))⟩))⟩))⟩;have e1:=A1 hb1 (.tup [.str z,xv]);have e2:=e1.trans (A1 hb2 (.tup [.ref b1]));refine .inr (HB (e:=e) (a:=v) ⟨qe,es,rfl,e2 _ _ hqe,hev.mono (A4 e2)⟩ (A1 hb2 _ _ _ A2) (hx4.mono (A4 e2)) A2 (by omega) λr' H5 s5 hr5=> ?_);have e5:=e2.trans s5;exact⟨b,.bind e z v,r0,calls,deep,most,.ref pt,.ref lp,tb,r',.ref a1,p,rfl,e5 _ _ hp4,hb.mono (A4 e5),hr5,hl4.mono (A4 e5),hz,λv' H' sm h=>q4 _ _ (e5.trans sm) h⟩
 | @one wd _ o _ _ _ ho=>
  refine⟨_,rfl,.inl ⟨rfl,_,rfl,ifF nZ (⟨_,rfl,.inl ⟨rfl,_,rfl,ifF nZ (BH ⟨_,rfl,.inl ⟨rfl,_,rfl,ifF nZ ⟨_,rfl,.inl ⟨rfl,_,rfl,ifT rfl ?_⟩⟩⟩⟩)⟩⟩)⟩⟩;refine⟨_,rfl,_,rfl,_,v,o,.ref a,xv,rfl,hfr4,hx4,hbv,.inl ⟨_,rfl,ho⟩,hlv,λu' H5 s5 ho5=> ?_⟩;cases ho5 with
  | @val v' p' u' h hv=>
   refine⟨_,rfl,(ixT h rfl (.inl ⟨rfl,_,rfl,ifF nZ ⟨_,rfl,_,rfl,C5,λb hb=>⟨_,rfl,_,rfl,BU ((s5.trans (A1 hb _)) _ _ hp4) A2 λr' H6 s6 h6=> ?_⟩⟩⟩))⟩;have e6:=(A1 hb (.tup [.ref p',.ref a1])).trans s6;exact q4 _ _ (s5.trans e6) ⟨r',.ref p',.ref a1,rfl,h6,.val (e6 _ _ h) (hv.mono (A4 e6)),hl4.mono (A4 (s5.trans e6))⟩
  | @ref w' p' h=>exact⟨_,rfl,(ixT h rfl (.inl ⟨rfl,_,rfl,ifT rfl ⟨_,rfl,q4 _ _ s5 ⟨p',rfl,h⟩⟩⟩))⟩
 | @then_ sg1 av _ o _ _ _ ho=>
  refine⟨_,rfl,.inl ⟨rfl,_,rfl,ifF nZ (⟨_,rfl,.inl ⟨rfl,_,rfl,ifF nZ (BH ⟨_,rfl,.inl ⟨rfl,_,rfl,ifT rfl (ifT rfl ?_)⟩⟩)⟩⟩)⟩⟩;refine⟨_,rfl,_,rfl,_,v,o,.ref a,xv,rfl,hfr4,hx4,hbv,.inr ⟨_,_,rfl,hbf,ho⟩,hlv,λu' H5 s5 ho5=> ?_⟩;cases ho5 with
  | @val v' p' u' h hv=>
   refine⟨_,rfl,(ixT h rfl (.inl ⟨rfl,_,rfl,ifF nZ ⟨_,rfl,_,rfl,C5,λb hb=>⟨_,rfl,_,rfl,BU ((s5.trans (A1 hb _)) _ _ hp4) A2 λr' H6 s6 h6=> ?_⟩⟩⟩))⟩;have e6:=(A1 hb (.tup [.ref p',.ref a1])).trans s6;exact q4 _ _ (s5.trans e6) ⟨r',.ref p',.ref a1,rfl,h6,.val (e6 _ _ h) (hv.mono (A4 e6)),hl4.mono (A4 (s5.trans e6))⟩
  | @ref w' p' h=>exact⟨_,rfl,(ixT h rfl (.inl ⟨rfl,_,rfl,ifT rfl ⟨_,rfl,q4 _ _ s5 ⟨p',rfl,h⟩⟩⟩))⟩
 | @call z vs e _ dn _ _ _ hd hdl=>
  refine⟨_,rfl,.inl ⟨rfl,_,rfl,ifF nZ (⟨_,rfl,.inl ⟨rfl,_,rfl,ifF nZ (BH ⟨_,rfl,.inl ⟨rfl,_,rfl,ifF nZ ⟨_,rfl,.inl ⟨rfl,_,rfl,ifF nZ (⟨_,rfl,.inl ⟨rfl,_,rfl,ifF nZ (⟨_,rfl,.inl ⟨rfl,_,rfl,ifF nZ (⟨_,rfl,.inl ⟨rfl,_,rfl,ifF nZ (⟨_,rfl,.inl ⟨rfl,_,rfl,ifF nZ (?_)⟩⟩)⟩⟩)⟩⟩)⟩⟩)⟩⟩⟩⟩)⟩⟩)⟩⟩;cases hfr4 with
  | @call _ _ _ _ _ qv qt vus wus we h hqv hvs hqt hts he=>
   rw[ha]at h;cases h;have hvl:=hvs.len;have hen2:vs.length<=900:=hen.1;refine⟨_,rfl,(ixT ha rfl ⟨_,rfl,K0,λb1 hb1=> ?_⟩)⟩;refine .inr (NH (A1 hb1 _ _ _ hqv) A2 (by omega) λvq H5 s5 hvq=> ?_);have e5:=(A1 hb1 (.tup [xv])).trans s5;have ha5:=e5 _ _ ha;have hvs5:All2 (V1 H5) (vs++ [v]) (vus++ [xv]):=(hvs.imp λ_ _ h=>h.mono (A4 e5)).app (.cons (hx4.mono (A4 e5)) .nil);refine⟨_,rfl,(ixT ha5 rfl ⟨zero_le _,λb2 hb2=>HM (A1 hb2 _ _ _ (e5 _ _ hqt)) A2 ⟨_,rfl, ?_⟩⟩)⟩;cases hts;have e6:=e5.trans (A1 hb2 (.tup []));have ha6:=e6 _ _ ha;have s56:=A1 hb2 (.tup []);refine ifT rfl ?_;obtain⟨pg,gus,rfl,hpg,hgD⟩:=hg4.mono (A4 e6);refine⟨_,rfl,pg,rfl,⟨gus,SqT.of hpg⟩,DW (E:=λdi u=>DnA (upd H5 b2 (.tup [])) di u) hpg hgD hgl hd ?_ ?_⟩
   ·rintro x di ys Pv hdn hy hn;obtain⟨pa,pq,pt',rfl,h1,h2,h3⟩:=hdn;exact⟨_,rfl,(ixT h1 rfl ⟨_,rfl,(ixT ha6 rfl (.inl ⟨rfl,_,rfl,F9 (λc=>⟨_,rfl,hy (by have:=of_decide_eq_true c;injection this) _ ⟨pa,pq,pt',rfl,h1,h2,h3⟩⟩) (λc=>hn λe=>c (by rw[e];exact decide_eq_true rfl))⟩))⟩)⟩
   rintro x rs ⟨pa,pq,pt',rfl,h1,h2,h3⟩ r1 hr1;have e7:=A1 hr1 (.lst (.ref pa::rs));refine(ixL A2 (show atI (V.ref pa::rs) ((0:Nat):Int)=some (.ref pa)from D5 rfl) ?_);have zz:(1000:Nat)<=sizeLine:=by decide
   have hpl:dn.pars.length=(vs++ [v]).length:=by rw[hdl,length_append];rfl
   refine⟨_,rfl,_,rfl,_,rfl,_,rfl,(ixT (e7 _ _ h1) rfl ⟨_,rfl,(ixT (e7 _ _ h1) rfl ⟨_,rfl,pq,vq,_,_,rfl,.inl (SqT.of (e7 _ _ h2)),.inl (SqT.of ((s56.trans e7) _ _ hvq)),(by rw[length_map,<-hvs5.len,hpl,min_self,length_append];simp only[length_cons,length_nil];omega),λr2 H6 ps s6 _ hr2 hps=>⟨r2,_,rfl,.inl ⟨SqL.of hr2,λr3 hr3=> ?_⟩⟩⟩)⟩)⟩;have e8:=s6.trans (A1 hr3 (.tup ps));have eA:=e6.trans (e7.trans e8);have s5A:=s56.trans (e7.trans s6);exact⟨dn.body,env dn.pars (vs++ [v]),r0,calls,deep,most,.ref pt,.ref lp,pt',.ref r3,.ref a1,p,rfl,eA _ _ hp4,h3.mono (A4 (e7.trans e8)),⟨r3,ps,rfl,A2,(KY (us0:=[]) hpl (hvs5.imp λ_ _ h=>h.mono (A4 s5A)) hps .nil).mono (A4 (A1 hr3 _))⟩,hl4.mono (A4 eA),hz,λv' H' sm h=>q4 _ _ (eA.trans sm) h⟩
 | @to _ _ fo fs _ _ _ ht=>
  cases ht with
  | @two sg1 t e _=>
   refine⟨_,rfl,.inl ⟨rfl,_,rfl,ifF nZ (⟨_,rfl,.inl ⟨rfl,_,rfl,ifF nZ (BH ⟨_,rfl,.inl ⟨rfl,_,rfl,ifF nZ ⟨_,rfl,.inl ⟨rfl,_,rfl,ifF nZ (⟨_,rfl,.inl ⟨rfl,_,rfl,ifT rfl (?_)⟩⟩)⟩⟩⟩⟩)⟩⟩)⟩⟩;cases hfr4 with
   | @two _ _ _ _ ut we h ht he=>
    rw[ha]at h;cases h;refine⟨_,rfl,(ixT ha rfl ⟨_,rfl,(ixT ha rfl ⟨C7,λb1 hb1=> ?_⟩)⟩)⟩;have e1:=A1 hb1 (.tup [.str "term",ut,we]);refine⟨_,rfl,_,rfl,(ixT (e1 _ _ ha) rfl ⟨_,rfl,C7,λb2 hb2=>⟨K0,λb3 hb3=> ?_⟩⟩)⟩;have e2:=A1 hb2 (.tup [.str "then",.str sg1,xv]);have e3:=A1 hb3 (.tup [.ref b2]);have e13:=e1.trans (e2.trans e3);refine .inr (P4 (fr:=.then_ sg1 v) (hl4.mono (A4 e13)) (.then_ (e3 _ _ A2) (hx4.mono (A4 e13))) A2 (by omega) λpv H5 s5 hp5=>⟨C5,λb4 hb4=> ?_⟩);have e4:=A1 hb4 (.tup [.ref b1,pv]);have e14:=e13.trans (s5.trans e4);refine⟨_,rfl,_,rfl,BU (e14 _ _ hp4) A2 λr' H6 s6 h6=> ?_⟩;have eA:=e14.trans s6;exact q4 _ _ eA ⟨r',.ref b1,pv,rfl,h6,.term (((e2.trans e3).trans (s5.trans (e4.trans s6))) _ _ A2) (ht.mono (A4 eA)) (he.mono (A4 eA)),hp5.mono (A4 (e4.trans s6))⟩
  | @do_ t e _=>
   refine⟨_,rfl,.inl ⟨rfl,_,rfl,ifF nZ (⟨_,rfl,.inl ⟨rfl,_,rfl,ifF nZ (BH ⟨_,rfl,.inl ⟨rfl,_,rfl,ifF nZ ⟨_,rfl,.inl ⟨rfl,_,rfl,ifF nZ (⟨_,rfl,.inl ⟨rfl,_,rfl,ifF nZ (⟨_,rfl,.inl ⟨rfl,_,rfl,ifT rfl (?_)⟩⟩)⟩⟩)⟩⟩⟩⟩)⟩⟩)⟩⟩;cases hfr4 with
   | @do_ _ _ _ ut we h ht he=>
    rw[ha]at h;cases h;refine⟨_,rfl,(ixT ha rfl ⟨_,rfl,(ixT ha rfl ⟨C7,λb1 hb1=> ?_⟩)⟩)⟩;have e1:=A1 hb1 (.tup [.str "term",ut,we]);refine⟨_,rfl,_,rfl,C5,λb2 hb2=>⟨K0,λb3 hb3=> ?_⟩⟩;have e2:=A1 hb2 (.tup [.str "with",xv]);have e3:=A1 hb3 (.tup [.ref b2]);have e13:=e1.trans (e2.trans e3);refine .inr (P4 (fr:=.with_ v) (hl4.mono (A4 e13)) (.with_ (e3 _ _ A2) (hx4.mono (A4 e13))) A2 (by omega) λpv H5 s5 hp5=>⟨C5,λb4 hb4=> ?_⟩);have e4:=A1 hb4 (.tup [.ref b1,pv]);have e14:=e13.trans (s5.trans e4);refine⟨_,rfl,_,rfl,BU (e14 _ _ hp4) A2 λr' H6 s6 h6=> ?_⟩;have eA:=e14.trans s6;exact q4 _ _ eA ⟨r',.ref b1,pv,rfl,h6,.term (((e2.trans e3).trans (s5.trans (e4.trans s6))) _ _ A2) (ht.mono (A4 eA)) (he.mono (A4 eA)),hp5.mono (A4 (e4.trans s6))⟩
  | @ite ta tb e cb=>
   refine⟨_,rfl,.inl ⟨rfl,_,rfl,ifF nZ (⟨_,rfl,.inl ⟨rfl,_,rfl,ifF nZ (BH ⟨_,rfl,.inl ⟨rfl,_,rfl,ifF nZ ⟨_,rfl,.inl ⟨rfl,_,rfl,ifF nZ (⟨_,rfl,.inl ⟨rfl,_,rfl,ifF nZ (⟨_,rfl,.inl ⟨rfl,_,rfl,ifF nZ (⟨_,rfl,.inl ⟨rfl,_,rfl,ifT rfl (?_)⟩⟩)⟩⟩)⟩⟩)⟩⟩⟩⟩)⟩⟩)⟩⟩;cases hx4;cases hfr4 with
   | @ite _ _ _ _ ut uu we h ht hs he=>
    rw[ha]at h;cases h;cases cb with
    |true=>
     refine⟨_,rfl,true,rfl,ifT rfl ⟨_,rfl,(ixT ha rfl ⟨_,rfl,(ixT ha rfl ⟨C7,λb1 hb1=> ?_⟩)⟩)⟩⟩;have e1:=A1 hb1 (.tup [.str "term",ut,we]);refine⟨_,rfl,C5,λb4 hb4=> ?_⟩;have e4:=A1 hb4 (.tup [.ref b1,.ref a1]);have e14:=e1.trans e4;refine⟨_,rfl,_,rfl,BU (e14 _ _ hp4) A2 λr' H6 s6 h6=> ?_⟩;have eA:=e14.trans s6;exact q4 _ _ eA ⟨r',.ref b1,.ref a1,rfl,h6,.term ((e4.trans s6) _ _ A2) (ht.mono (A4 eA)) (he.mono (A4 eA)),hl4.mono (A4 eA)⟩
    |false=>
     refine⟨_,rfl,false,rfl,ifF nZ ⟨_,rfl,(ixT ha rfl ⟨_,rfl,(ixT ha rfl ⟨C7,λb1 hb1=> ?_⟩)⟩)⟩⟩;have e1:=A1 hb1 (.tup [.str "term",uu,we]);refine⟨_,rfl,C5,λb4 hb4=> ?_⟩;have e4:=A1 hb4 (.tup [.ref b1,.ref a1]);have e14:=e1.trans e4;refine⟨_,rfl,_,rfl,BU (e14 _ _ hp4) A2 λr' H6 s6 h6=> ?_⟩;have eA:=e14.trans s6;exact q4 _ _ eA ⟨r',.ref b1,.ref a1,rfl,h6,.term ((e4.trans s6) _ _ A2) (hs.mono (A4 eA)) (he.mono (A4 eA)),hl4.mono (A4 eA)⟩
  | @let_ z b e _=>
   refine⟨_,rfl,.inl ⟨rfl,_,rfl,ifF nZ (⟨_,rfl,.inl ⟨rfl,_,rfl,ifF nZ (BH ⟨_,rfl,.inl ⟨rfl,_,rfl,ifF nZ ⟨_,rfl,.inl ⟨rfl,_,rfl,ifF nZ (⟨_,rfl,.inl ⟨rfl,_,rfl,ifF nZ (⟨_,rfl,.inl ⟨rfl,_,rfl,ifF nZ (⟨_,rfl,.inl ⟨rfl,_,rfl,ifF nZ (⟨_,rfl,.inl ⟨rfl,_,rfl,ifT rfl (?_)⟩⟩)⟩⟩)⟩⟩)⟩⟩)⟩⟩⟩⟩)⟩⟩)⟩⟩;cases hfr4 with
   | @let_ _ _ _ _ ut we h ht he=>
    rw[ha]at h;cases h;have hen:L7 e<=1000:=hen;refine⟨_,rfl,(ixT ha rfl ⟨_,rfl,(ixT ha rfl ⟨_,rfl,(ixT ha rfl ⟨_,rfl,C5,λb1 hb1=>⟨K0,λb2 hb2=> ?_⟩⟩)⟩)⟩)⟩;have e1:=A1 hb1 (.tup [.str z,xv]);have e2:=A1 hb2 (.tup [.ref b1]);have e12:=e1.trans e2;refine .inr (HB (e:=e) (a:=v) (he.mono (A4 e12)) (e2 _ _ A2) (hx4.mono (A4 e12)) A2 (by omega) λr1 H5 s5 hr5=>⟨C7,λb3 hb3=>⟨_,rfl,C5,λb4 hb4=> ?_⟩⟩);have e3:=A1 hb3 (.tup [.str "term",ut,r1]);have e4:=A1 hb4 (.tup [.ref b3,.ref a1]);have e14:=e12.trans (s5.trans (e3.trans e4));refine⟨_,rfl,_,rfl,BU (e14 _ _ hp4) A2 λr' H6 s6 h6=> ?_⟩;have eA:=e14.trans s6;exact q4 _ _ eA ⟨r',.ref b3,.ref a1,rfl,h6,.term ((e4.trans s6) _ _ A2) (ht.mono (A4 eA)) (hr5.mono (A4 (e3.trans (e4.trans s6)))),hl4.mono (A4 eA)⟩
  | @call z vs t ts e _=>
   refine⟨_,rfl,.inl ⟨rfl,_,rfl,ifF nZ (⟨_,rfl,.inl ⟨rfl,_,rfl,ifF nZ (BH ⟨_,rfl,.inl ⟨rfl,_,rfl,ifF nZ ⟨_,rfl,.inl ⟨rfl,_,rfl,ifF nZ (⟨_,rfl,.inl ⟨rfl,_,rfl,ifF nZ (⟨_,rfl,.inl ⟨rfl,_,rfl,ifF nZ (⟨_,rfl,.inl ⟨rfl,_,rfl,ifF nZ (⟨_,rfl,.inl ⟨rfl,_,rfl,ifF nZ (?_)⟩⟩)⟩⟩)⟩⟩)⟩⟩)⟩⟩⟩⟩)⟩⟩)⟩⟩;cases hfr4 with
   | @call _ _ _ _ _ qv qt vus wus we h hqv hvs hqt hts he=>
    rw[ha]at h;cases h;have hvl:=hvs.len;have hen2:vs.length<=900:=hen.1;refine⟨_,rfl,(ixT ha rfl ⟨_,rfl,K0,λb1 hb1=> ?_⟩)⟩;refine .inr (NH (A1 hb1 _ _ _ hqv) A2 (by omega) λvq H5 s5 hvq=> ?_);have e5:=(A1 hb1 (.tup [xv])).trans s5;have ha5:=e5 _ _ ha;have hvs5:All2 (V1 H5) (vs++ [v]) (vus++ [xv]):=(hvs.imp λ_ _ h=>h.mono (A4 e5)).app (.cons (hx4.mono (A4 e5)) .nil);refine⟨_,rfl,(ixT ha5 rfl ⟨zero_le _,λb2 hb2=>HM (A1 hb2 _ _ _ (e5 _ _ hqt)) A2 ⟨_,rfl, ?_⟩⟩)⟩;have hen3:ts.length+1<=900:=hen.2;cases hts with
    | @cons _ tv1 _ wus1 ht1 hts1=>
     have e6:=e5.trans (A1 hb2 (.tup []));have ha6:=e6 _ _ ha;have hqt6:=e6 _ _ hqt;refine ifF nZ ?_;refine⟨_,rfl,(ixT ha6 rfl ⟨_,rfl,_,rfl,(ixT ha6 rfl ⟨_,rfl,.inr ⟨qt,_,rfl,SqT.of hqt6,E3 (by decide) (succ_pos _) _,λb3 hb3=> ?_⟩⟩)⟩)⟩;rw[show P3 (tv1::wus1) (some 1) none=wus1 by exact Y6 _ _];have e7:=A1 hb3 (.tup wus1);refine⟨_,rfl,(ixT (e7 _ _ ha6) rfl ⟨aBZ,λb4 hb4=> ?_⟩)⟩;have e8:=A1 hb4 (.tup [.str "call",.str z,.ref vq,.ref b3,we]);have e78:=e6.trans (e7.trans e8);have ha8:=e78 _ _ ha;refine⟨_,rfl,(ixT ha8 rfl (ixT (e78 _ _ hqt) (show atI (tv1::wus1) ((0:Nat):Int)=some tv1 from D5 rfl) ⟨_,rfl,(ixT ha8 rfl ⟨C7,λb5 hb5=> ?_⟩)⟩))⟩;have e9:=A1 hb5 (.tup [.str "term",tv1,we]);refine⟨_,rfl,_,rfl,K0,λb6 hb6=> ?_⟩;have e10:=A1 hb6 (.tup [.ref b4]);have eB:=e78.trans (e9.trans e10);have s5B:=(A1 hb2 (.tup [])).trans (e7.trans (e8.trans (e9.trans e10)));refine .inr (P4 (fr:=.call z (vs++ [v]) ts e) (hl4.mono (A4 eB)) (.call ((e9.trans e10) _ _ A2) (s5B _ _ hvq) (hvs5.imp λ_ _ h=>h.mono (A4 s5B)) ((e8.trans (e9.trans e10)) _ _ A2) (hts1.imp λ_ _ h=>h.mono (A4 eB)) (he.mono (A4 eB))) A2 (by omega) λpv H7 s7 hp7=>⟨C5,λb7 hb7=> ?_⟩);have e11:=A1 hb7 (.tup [.ref b5,pv]);have eC:=eB.trans (s7.trans e11);refine⟨_,rfl,_,rfl,BU (eC _ _ hp4) A2 λr' H8 s8 h8=> ?_⟩;have eA:=eC.trans s8;exact q4 _ _ eA ⟨r',.ref b5,pv,rfl,h8,.term ((e10.trans (s7.trans (e11.trans s8))) _ _ A2) (ht1.mono (A4 eA)) (he.mono (A4 eA)),hp7.mono (A4 (e11.trans s8))⟩
end
noncomputable abbrev EB:Stmt:=_B.top 56
noncomputable abbrev OM:List Str:=["_law_program_here","_law_state","_law_most"]
theorem sc_law_next:FnScope OM LX (B3 EB):=fS
section
variable{P:Program}{w:World}{K:FZ}{mg:Str->Option Value}{base:Heap}{f:Addr}{fd:FuncData}{awZ ZJ UM:Addr}{auZ ZK UO:FuncData}
inductive spNxW(vs:List V)(H:Hp)(Q:VK):Prop
 |mk:∀(s:Sta) (r:Res) (D:List Dn) (most:Int) (gv sv:V),(vs=[gv,sv,.int most])->(StA H s sv)->(PgA H D gv)->(D.length<=1000)->(Okk s)->((∀v,s.fo=.val v->s.pile=[]->dv v<=2))->(Stp D most s r)->(∀u H',Same H H'->ReA H' r u->Q u H')->spNxW vs H Q
noncomputable def cXZ:Sp:=λvs H Q _=>spNxW vs H Q
theorem ok_law_next(F:Fun K "_law_next" "_law_next" EB f fd)
  (U8:Cn P w K mg base CX0 3 "_law_plain" PH (WR 2))
  (Z3:Cn P w K mg base CX0 2 "_law_of_term" LX ZO)
  (X6:Cn P w K mg base CX0 2 "_law_of_value" LX csZ):
  FnOk P w K mg base CX0 4 f fd LX cXZ:=by
 refine F.ok sc_law_next (λvs H Q E h=> ?_) (λcdv A outer s H vs Q E hr h=> ?_)
 ·obtain⟨s,r,D,most,gv,sv,rfl,_⟩:=h;rfl
 obtain⟨⟨fo,pl,c,d⟩,r,D,most,gv,sv,rfl,hs,hg,hgl,hok,hdv,hst,q⟩:=h;have nd:=sc_law_next.nd;have hu:=hr.units0;have hs0:=hs;obtain⟨p,fv,lv,rfl,hp,hf,hl⟩:=hs;refine⟨_,(A6 (B7 (B0 (kEq (K:=K) hu) (ixE K w (ixE K w (pv 1) A3) A3) A7 rfl) (A9 (B4 (cC Z3 hr (A0 (pv 0) (A0 (pv 1) (A0 (pv 2) A5)))))) B6)
   (A6 (B7 (B0 (CO (K:=K) hr.units) (ixE K w (pv 1) A3) (A8 A5) rfl) (A9 (B4 (A8 (A0 A7 (A0 (cC U8 hr (A0 (ixE K w (ixE K w (pv 1) A3) A3) A5)) A5))))) B6)
   (A9 (B4 (cC X6 hr (A0 (pv 0) (A0 (pv 1) (A0 (pv 2) A5)))))))), ?_⟩
 cases fo with
 |term t e=>
  cases hf with
  | @term _ _ pt u w0 h1 h2 h3=>
   refine⟨_,rfl,(ixT hp rfl (ixT h1 rfl (.inl ⟨rfl,_,rfl,ifT rfl ?_⟩)))⟩;exact⟨_,rfl,_,rfl,_,rfl,t,e,pl,c,d,r,D,most,gv,_,rfl,hs0,hg,hgl,hok.len,hok.tm t e rfl,hst,q⟩
 |val v=>
  cases hf with
  | @val _ pt u h1 h2=>
   refine⟨_,rfl,(ixT hp rfl (ixT h1 rfl (.inl ⟨rfl,_,rfl,ifF nZ ?_⟩)))⟩;obtain⟨lp,us,rfl,hlp,hus⟩:=hl;refine⟨_,rfl,(ixT hp rfl ⟨zero_le _,λb hb=>HM (A1 hb _ _ _ hlp) A2 ⟨_,rfl, ?_⟩⟩)⟩;have s1:=A1 hb (.tup []);obtain⟨o1,o2,o3⟩:=hok.vl v rfl;cases pl with
   |nil=>
    cases hus;cases hst;refine ifT rfl ?_;refine⟨_,rfl,(ixT (s1 _ _ hp) rfl (ixT (s1 _ _ h1) rfl ⟨v,u,rfl,h2.mono (A4 s1),(o3 rfl).1,(o3 rfl).2,hdv v rfl rfl,λu' H' sm hu'=>⟨C5,λa ha=>q _ _ (s1.trans (sm.trans (A1 ha _))) ⟨a,u',rfl,A2,hu'.same (A1 ha _)⟩⟩⟩))⟩
   |cons fr r0=>
    have hne:us≠ []:=λe=>by
     have:=hus.len;rw[e]at this;simp at this
    refine ifF (by simpa using hne) ?_;have h5:=hok.fr fr (mem_cons_self ..);exact⟨_,rfl,_,rfl,_,rfl,v,fr,r0,c,d,r,D,most,gv,_,rfl,hs0.mono (A4 s1),hg.mono (A4 s1),hgl,Nat.le_of_succ_le hok.len,h5.1,h5.2,o1,o2,hst,λu' H' sm h=>q _ _ (s1.trans sm) h⟩
end
noncomputable abbrev V6:Stmt:=_B.top 57
noncomputable abbrev GG:List Str:=["_law_one","_law_other","_law_left"]
theorem sc_law_alike:FnScope GG MP (B3 V6):=fS
noncomputable def Lk(x y:V):Prop:=x=y/\((∃i,x=.int i)\/(∃b,x=.bl b)\/∃z,x=.str z)
noncomputable abbrev sqo(t:Bool)(xs:List V):HO:=bif t then .tup xs else .lst xs
noncomputable def Ak(H:Hp):Nat->V->V->Prop
 |0,x,y=>Lk x y
 |n+1,x,y=>Lk x y\/∃(t:Bool) (a b:Addr) (xs ys:List V),x=.ref a/\y=.ref b/\H a=some (sqo t xs)/\H b=some (sqo t ys)/\xs.length<=100000/\All2 (Ak H n) xs ys
theorem Ak.lk{H:Hp}{n:Nat}{x y:V}(h:Lk x y):Ak H n x y:=by cases n;exact h;exact .inl h
theorem Ak.same{H H':Hp}(m:Same H H'):∀ {n:Nat} {x y:V},Ak H n x y->Ak H' n x y
 |0,_,_,h=>h
 |n+1,_,_,.inl h=> .inl h
 |n+1,_,_,.inr ⟨t,a,b,xs,ys,e1,e2,h1,h2,h3,h4⟩=> .inr ⟨t,a,b,xs,ys,e1,e2,m _ _ h1,m _ _ h2,h3,h4.imp λ_ _ h=>Ak.same m h⟩
theorem Ak.mono{H:Hp}:∀ {n m:Nat} {x y:V},n<=m->Ak H n x y->Ak H m x y
 |0,_,_,_,_,h=> .lk h
 |n+1,0,_,_,h,_=>absurd h (by omega)
 |n+1,m+1,_,_,_,.inl h=> .inl h
 |n+1,m+1,_,_,hm,.inr ⟨t,a,b,xs,ys,e1,e2,h1,h2,h3,h4⟩=> .inr ⟨t,a,b,xs,ys,e1,e2,h1,h2,h3,h4.imp λ_ _ h=>Ak.mono (Nat.le_of_succ_le_succ hm) h⟩
theorem sqx{K:FZ}{H:Hp}{t:Bool}{a:Addr}{xs:List V}(h:H a=some (sqo t xs)):SqX t K H a xs:=by
 cases t
 ·exact SqL.of h
 ·exact SqT.of h
section
variable{P:Program}{w:World}{K:FZ}{mg:Str->Option Value}{base:Heap}{f:Addr}{fd:FuncData}
inductive spAkW(n:Nat)(vs:List V)(H:Hp)(Q:VK):Prop
 |mk:∀(x y:V) (l:Addr) (k:Int) (H0:Hp),(vs=[x,y,.ref l])->(Ak H0 n x y)->(Same H0 H)->(H0 l=none)->(H l=some (.lst [.int k]))->(∀k' H',Same H0 H'->H' l=some (.lst [.int k'])->Q (.bl true) H')->spAkW n vs H Q
noncomputable def VX(n:Nat):Sp:=λvs H Q _=>spAkW n vs H Q
theorem dfZ:kitAny K (.type "int") [.type "tuple",.type "list"]=some false:=by rfl
theorem dbZ:kitAny K (.type "bool") [.type "tuple",.type "list"]=some false:=by rfl
theorem diZ:kitAny K (.type "str") [.type "tuple",.type "list"]=some false:=by rfl
theorem ZB:kitOne K (.type "int") (.type "bool")=some false:=by rfl
theorem WP:kitOne K (.type "bool") (.type "bool")=some true:=by rfl
theorem VN:kitOne K (.type "str") (.type "bool")=some false:=by rfl
theorem tyq{H:Hp}{t:Bool}{a:Addr}{xs:List V}(h:H a=some (sqo t xs)):TyOf K H (.ref a) (.type (bif t then "tuple"else "list")):=by
 cases t
 ·exact .lst h
 ·exact .tup h
theorem cqZ{t:Bool}:kitAny K (.type (bif t then "tuple"else "list")) [.type "tuple",.type "list"]=some true:=by cases t<;>rfl
theorem VR{t:Bool}:kitOne K (.type (bif t then "tuple"else "list")) (.type "list")=some (!t):=by cases t<;>rfl
theorem aGZ{H:Hp}{t:Bool}{a:Addr}{xs:List V}(h:H a=some (sqo t xs)):cwZ K (.ref a) H xs.length:=by
 cases t
 ·exact .inl ⟨_,SqL.of h,rfl⟩
 ·exact .inr ⟨_,SqT.of h,rfl⟩
theorem GE{n:Nat}{sp:Sp}(hsp:∀m,n=m+1->∀vs H Q E,VX m vs H Q E->sp vs H Q E)(F:Fun K "_law_alike" "_law_alike" V6 f fd)(B:NoL mg)
  (V3:FnOk P w K mg base CX0 n f fd MP sp)(O9:Binds K fd MP [])(O8:kZ K (.ref f)=true)(P0:mg "_law_alike"=some (.ref f)):
  FnOk P w K mg base CX0 (n+1) f fd MP (VX n):=by
 refine F.ok sc_law_alike (λvs H Q E h=> ?_) (λcdv A outer s H vs Q E hr h=> ?_)
 ·obtain⟨x,y,l,k,H0,rfl,_⟩:=h;rfl
 obtain⟨x,y,l,k,H0,rfl,hak,hsm,hl0,hl,q⟩:=h;have nd:=sc_law_alike.nd;have hu:=hr.units0;obtain⟨tt,hak'⟩:∃tt:Bool,Lk x y\/∃m,n=m+1/\∃(a b:Addr) (xs ys:List V),x=.ref a/\y=.ref b/\H0 a=some (sqo tt xs)/\H0 b=some (sqo tt ys)/\xs.length<=100000/\All2 (Ak H0 m) xs ys:=by
  cases n with
  |zero=>exact⟨true,.inl hak⟩
  |succ m=>
   rcases hak with h|⟨t,h⟩
   ·exact⟨true,.inl h⟩
   ·exact⟨t,.inr ⟨m,rfl,h⟩⟩
 refine⟨_,(A6 (Z7 (B5 T4 (ixE K w (pv 2) A3) A3) (DU (pv 2) A3 AF))
   (A6 (B7 (B0 GL (ixE K w (pv 2) A3) A3 rfl) (A9 (B4 EZ)) B6)
   (A6 (B7 (DN (N5 (K:=K) (J7 (XW (K:=K)) rfl B.isinstance_ E1 (A0 (pv 1) (A0 (A8 (A0 (O1 (v:=.ty "tuple") rfl B.tuple_ M6 rfl) (A0 (O1 (v:=.ty "list") rfl B.list_ U4 rfl) A5))) A5))) (λ_=>rfl))) (A9 (B4 (WU (N4 (kEq (K:=K) hu) (J7 (CC (K:=K)) rfl B.isinstance_ E1 (A0 (pv 0) (A0 (O1 (v:=.ty "bool") rfl B.bool_ QU rfl) A5))) (J7 (CC (K:=K)) rfl B.isinstance_ E1 (A0 (pv 1) (A0 (O1 (v:=.ty "bool") rfl B.bool_ QU rfl) A5))) rfl) (YM (N4 (kEq (K:=K) hu) (pv 0) (pv 1) rfl))))) B6)
   (A6 (D7 (B7 (PW.pt (IT (DN (N5 (K:=K) (J7 (XW (K:=K)) rfl B.isinstance_ E1 (A0 (pv 0) (A0 (A8 (A0 (O1 (v:=.ty "tuple") rfl B.tuple_ M6 rfl) (A0 (O1 (v:=.ty "list") rfl B.list_ U4 rfl) A5))) A5))) (λ_=>rfl))) (FL (B0 (kNe (K:=K) hu) (kL K B.len_ (pv 0)) (kL K B.len_ (pv 1)) rfl)))) (A9 (B4 EZ)) B6))
   (A6 (B7 (B0 (kNe (K:=K) hu) (J7 (CC (K:=K)) rfl B.isinstance_ E1 (A0 (pv 0) (A0 (O1 (v:=.ty "list") rfl B.list_ U4 rfl) A5))) (J7 (CC (K:=K)) rfl B.isinstance_ E1 (A0 (pv 1) (A0 (O1 (v:=.ty "list") rfl B.list_ U4 rfl) A5))) rfl) (A9 (B4 EZ)) B6)
   (A9 (B4 (J7 (aEZ (K:=K) rfl) rfl B.all_ WW (A0 (HP (CompScope2.mk (N:=GG) (sc:=B3 V6) (caps:=[2]) (ns:=["_law_left"]) (by decide +kernel) rfl (by decide +kernel) rfl rfl (by decide +kernel) rfl (by decide +kernel) (by decide +kernel)) rfl rfl rfl (SG tt tt (K:=K) rfl B.zip_ (A0 (pv 0) (A0 (pv 1) A5))) (λ_ _ _ _ _=>P5) (λ_ _ _ _ _=>(C8 V3 (hr.mono (by omega)) rfl P0 O8 O9 .nil E5 (A0 (pv 0) (A0 (pv 1) (A0 (pv 2) A5)))))) A5))))))))), ?_⟩
 have hs1:Same H0 (upd H l (.lst [.int (k - 1)])):=λb o hb=>by
  rw[B9 (C1 hb hl0)];exact hsm _ _ hb
 refine⟨_,rfl,(ixL hl rfl ⟨_,_,rfl,rfl,_,rfl,⟨l,_,0,0,rfl,rfl,hl,rfl, ?_⟩⟩)⟩;have hl1:(upd H l (.lst [.int (k - 1)])) l=some (.lst [.int (k - 1)]):=A2;show S9 _ _ _ [some x,some y,some (.ref l)] (upd H l (.lst [.int (k - 1)]));generalize upd H l (.lst [.int (k - 1)])=H1 at hs1 hl1⊢;refine⟨_,rfl,(ixL hl1 rfl ⟨_,_,rfl,rfl,_,rfl,F9 (λc=>q _ _ hs1 hl1) (λc=> ?_)⟩)⟩;rcases hak' with⟨rfl,⟨i,rfl⟩|⟨i,rfl⟩|⟨i,rfl⟩⟩|⟨m,rfl,a,b,xs,ys,rfl,rfl,ha,hb,hlen,hA⟩
 ·refine⟨_,rfl,C5,λp hp=>⟨_,_,_,_,_,p,rfl,SqT.of A2,.int _,dfZ,_,rfl,ifT rfl ?_⟩⟩;refine⟨_,rfl,_,_,_,_,rfl,.int _,ZB,_,rfl,_,_,_,_,rfl,.int _,ZB,.inl ⟨rfl,_,rfl,ifT (by decide) ⟨_,rfl,_,rfl,.inl ⟨rfl, ?_⟩⟩⟩⟩;rw[decide_eq_true rfl];exact q _ _ (hs1.trans (A1 hp _)) (A1 hp _ _ _ hl1)
 ·refine⟨_,rfl,C5,λp hp=>⟨_,_,_,_,_,p,rfl,SqT.of A2,.bl _,dbZ,_,rfl,ifT rfl ?_⟩⟩;refine⟨_,rfl,_,_,_,_,rfl,.bl _,WP,_,rfl,_,_,_,_,rfl,.bl _,WP,.inl ⟨rfl,_,rfl,ifT (by decide) ⟨_,rfl,_,rfl,.inl ⟨rfl, ?_⟩⟩⟩⟩;rw[decide_eq_true rfl];exact q _ _ (hs1.trans (A1 hp _)) (A1 hp _ _ _ hl1)
 ·refine⟨_,rfl,C5,λp hp=>⟨_,_,_,_,_,p,rfl,SqT.of A2,.str _,diZ,_,rfl,ifT rfl ?_⟩⟩;refine⟨_,rfl,_,_,_,_,rfl,.str _,VN,_,rfl,_,_,_,_,rfl,.str _,VN,.inl ⟨rfl,_,rfl,ifT (by decide) ⟨_,rfl,_,rfl,.inl ⟨rfl, ?_⟩⟩⟩⟩;rw[decide_eq_true rfl];exact q _ _ (hs1.trans (A1 hp _)) (A1 hp _ _ _ hl1)
 ·have hle:xs.length=ys.length:=hA.len;have z5:(100000:Nat)<=sizeLine:=by decide
  refine⟨_,rfl,C5,λp hp=>⟨_,_,_,_,_,p,rfl,SqT.of A2,tyq ((hs1.trans (A1 hp _)) _ _ hb),cqZ,_,rfl,ifF nZ ?_⟩⟩;have hs2:=hs1.trans (A1 hp (.tup [.ty "tuple",.ty "list"]));have hl2:=A1 hp (.tup [.ty "tuple",.ty "list"]) _ _ hl1;generalize upd H1 p (.tup [.ty "tuple",.ty "list"])=H2 at hs2 hl2⊢;refine⟨fun σ' H'=>σ'=[some (.ref a),some (.ref b),some (.ref l)]/\Same H0 H'/\H' l=some (.lst [.int (k - 1)]), ?_, ?_⟩
  ·refine⟨_,rfl,C5,λp2 hp2=>⟨_,_,_,_,_,p2,rfl,SqT.of A2,tyq ((hs2.trans (A1 hp2 _)) _ _ ha),cqZ,_,rfl,ifF nZ ?_⟩⟩;have hs3:=hs2.trans (A1 hp2 (.tup [.ty "tuple",.ty "list"]));refine⟨_,rfl,_,_,rfl,aGZ (hs3 _ _ ha),_,rfl,_,_,rfl,aGZ (hs3 _ _ hb),.inl ⟨rfl,_,rfl,ifF (by rw[hle];simp) ⟨rfl,hs3,A1 hp2 _ _ _ hl2⟩⟩⟩
  rintro _ H3 ⟨rfl,hs3,hl3⟩;refine⟨_,rfl,_,_,_,_,rfl,tyq (hs3 _ _ ha),VR,_,rfl,_,_,_,_,rfl,tyq (hs3 _ _ hb),VR,.inl ⟨rfl,_,rfl,ifF (by simp) ?_⟩⟩;refine⟨_,rfl,_,rfl,a,b,xs,ys,rfl,sqx (hs3 _ _ ha),sqx (hs3 _ _ hb),UC (t1:=tt) (t2:=tt) hle (λi zs H'=>(∃k',H' l=some (.lst [.int k']))/\Same H0 H'/\zs=List.replicate i (V.bl true)) ⟨⟨_,hl3⟩,hs3,rfl⟩ ?_ ?_ ?_⟩
  ·rintro i zs H' hi ⟨_,s',rfl⟩;refine⟨sqx (s' _ _ ha),sqx (s' _ _ hb), ?_⟩;rw[length_replicate];omega
  ·rintro i x y zs H' T hx hy ⟨⟨k',hk'⟩,s',rfl⟩ hT;refine T3 ?_;have s2:=s'.trans (A1 hT (.tup [x,y]));obtain⟨x',hx',hE⟩:=hA.get hy;rw[hx]at hx';cases hx';refine⟨_,rfl,_,rfl,_,rfl,hsp m rfl _ _ _ _ ⟨x,y,l,k',H0,rfl,hE,s2,hl0,A1 hT _ _ _ hk',λk2 H3 s3 hk2=>⟨⟨k2,hk2⟩,s3, ?_⟩⟩⟩;rw[List.replicate_succ']
  ·rintro zs H' ⟨⟨k',hk'⟩,s',rfl⟩ D hD;refine⟨D,List.replicate xs.length true,rfl,SqL.of ?_, ?_⟩
   ·rw[A2,List.map_replicate]
   ·have e:(List.replicate xs.length true).all id=true:=by simp
    rw[e];exact q _ _ (s'.trans (A1 hD _)) (A1 hD _ _ _ hk')
theorem ok_law_alike(F:Fun K "_law_alike" "_law_alike" V6 f fd)(B:NoL mg)(O9:Binds K fd MP [])(O8:kZ K (.ref f)=true)(P0:mg "_law_alike"=some (.ref f)):∀n,FnOk P w K mg base CX0 (n+1) f fd MP (VX n)
 |0=>GE (sp:=amZ) (λ_ e=>nomatch e) F B (HI λ_ _ _ _ h=>h) O9 O8 P0
 |n+1=>GE (sp:=VX n) (λm e vs H Q E h=>by cases e;exact h) F B (ok_law_alike F B O9 O8 P0 n) O9 O8 P0
end
noncomputable abbrev AW:Stmt:=_B.top 58
noncomputable abbrev IJ:List Str:=["_law_found","_law_due","_law_pairs","_law_one","_law_other"]
theorem sc_law_same:FnScope IJ cbZ (B3 AW):=fS
inductive PrK (H0 H:Hp) (n:Nat) (v:V):Prop
 |mk:∀q x y,(v=.ref q)->(H q=some (.tup [x,y]))->(Ak H0 n x y)->PrK H0 H n v
theorem PrK.mono{H0 H H':Hp}{n:Nat}{v:V}(h:PrK H0 H n v)(m:Mo H H'):PrK H0 H' n v:=let⟨q,x,y,e,h1,h2⟩:=h;⟨q,x,y,e,m _ _ h1,h2⟩
theorem aLZ{H0 H:Hp}{n:Nat}:∀ {us vs zs:List V},Prs H us vs zs->All2 (Ak H0 n) us vs->∀v∈zs,PrK H0 H n v
 | [],_,zs,hp,.nil,v,hv=>by rw[SH hp]at hv;cases hv
 |u::us,w::vs,zs,hp,.cons h1 h2,v,hv=>by
  obtain⟨q,ps',rfl,hq,hp'⟩:=MY hp;rcases cZ hv with rfl|hv
  ·exact⟨q,u,w,rfl,hq,h1⟩
  ·exact aLZ hp' h2 v hv
theorem none_of{H H':Hp}{c:Addr}(m:Same H H')(h:H' c=none):H c=none:=by
 cases e:H c with
 |none=>rfl
 |some o=>rw[m _ _ e]at h;cases h
theorem bhZ{K:FZ}:kitOne K (.type "str") (.type "tuple")=some false:=by rfl
theorem b0Z{K:FZ}:kitOne K (.type "list") (.type "tuple")=some false:=by rfl
section
variable{P:Program}{w:World}{K:FZ}{mg:Str->Option Value}{base:Heap}{f BJ:Addr}{fd GA:FuncData}
inductive spSmW(n:Nat)(vs:List V)(H:Hp)(Q:VK):Prop
 |mk:∀(a b:Addr) (xs ys:List V),(vs=[.ref a,.ref b])->(H a=some (.tup xs))->(H b=some (.tup ys))->(xs.length<=4)->(All2 (Ak H (n+1)) xs ys)->(∀H',Same H H'->Q (.bl true) H')->spSmW n vs H Q
noncomputable def cJZ(n:Nat):Sp:=λvs H Q _=>spSmW n vs H Q
theorem ok_law_same{n:Nat}(F:Fun K "_law_same" "_law_same" AW f fd)(B:NoL mg)
  (V3:FnOk P w K mg base CX0 (n+2) BJ GA MP (VX (n+1)))(O9:Binds K GA MP [])(O8:kZ K (.ref BJ)=true)(P0:mg "_law_alike"=some (.ref BJ)):
  FnOk P w K mg base CX0 (n+3) f fd cbZ (cJZ n):=by
 refine F.ok sc_law_same (λvs H Q E h=> ?_) (λcdv A outer s H vs Q E hr h=> ?_)
 ·obtain⟨a,b,xs,ys,rfl,_⟩:=h;rfl
 obtain⟨a,b,xs,ys,rfl,ha,hb,hlen,hA,q⟩:=h;have nd:=sc_law_same.nd;have hu:=hr.units0;have hle:xs.length=ys.length:=hA.len;refine⟨_,(A6 (D7 (B7 (PW.pt (IT (DN (N5 (K:=K) (J7 (CC (K:=K)) rfl B.isinstance_ E1 (A0 (pv 0) (A0 (O1 (v:=.ty "tuple") rfl B.tuple_ M6 rfl) A5))) (λ_=>rfl))) (FL (B0 (kNe (K:=K) hu) (kL K B.len_ (pv 0)) (kL K B.len_ (pv 1)) rfl)))) (A9 (B4 EZ)) B6))
   (A6 (sS 2 nd (K1 A5))
   (A6 (D7 (FI PassesOwn.never rfl (SG true true (K:=K) rfl B.zip_ (A0 (pv 0) (A0 (pv 1) A5))) (FQ rfl (O4 (gN 3 nd) (O4 (gN 4 nd) CK))) (A6 (CI (aP K (pv 2) (A8 (A0 (pv 3) (A0 (pv 4) A5)))))
   (A9 (D7 (B7 (PW.pt (N1 (N5 (K:=K) (J7 (CC (K:=K)) rfl B.isinstance_ E1 (A0 (pv 3) (A0 (O1 (v:=.ty "tuple") rfl B.tuple_ M6 rfl) A5))) (λ_=>rfl)) (N1 (N5 (K:=K) (J7 (CC (K:=K)) rfl B.isinstance_ E1 (A0 (pv 4) (A0 (O1 (v:=.ty "tuple") rfl B.tuple_ M6 rfl) A5))) (λ_=>rfl)) (M7 (B0 (kEq (K:=K) hu) (kL K B.len_ (pv 3)) (kL K B.len_ (pv 4)) rfl))))) (A9 (sS 2 nd (B5 AC (C2 (kSl (K:=K)) (pv 2) C9 (C6 (EY AJ A3))) (CA (K:=K) rfl B.zip_ rfl B.list_ rfl (A0 (pv 3) (A0 (pv 4) A5)))))) B6))))))
   (A9 (B4 (J7 (aEZ (K:=K) rfl) rfl B.all_ WW (A0 (HP (CompScope2.mk (N:=IJ) (sc:=B3 AW) (caps:=[]) (ns:=[]) (by decide +kernel) rfl (by decide +kernel) rfl rfl (by decide +kernel) rfl (by decide +kernel) (by decide +kernel)) rfl rfl rfl (W8 (K:=K) (pv 2)) (λ_ _ _ _ _=>P5) (λ_ _ _ _ _=>(C8 V3 (hr.mono (by omega)) rfl P0 O8 O9 .nil E5 (A0 (pv 0) (A0 (pv 1) (A0 (K1 (A0 A3 A5)) A5)))))) A5))))))), ?_⟩
 refine⟨fun σ' H'=>σ'=[some (.ref a),some (.ref b),none,none,none]/\H=H', ?_, ?_⟩
 ·refine⟨_,rfl,_,_,_,_,rfl,.tup ha,FR,_,rfl,ifF nZ ?_⟩;exact⟨_,rfl,_,_,rfl,.inr ⟨_,SqT.of ha,rfl⟩,_,rfl,_,_,rfl,.inr ⟨_,SqT.of hb,rfl⟩,.inl ⟨rfl,_,rfl,ifF (by rw[hle];simp) ⟨rfl,rfl⟩⟩⟩
 rintro _ _ ⟨rfl,rfl⟩;refine⟨zero_le _,λl0 hl0=> ?_⟩;have s0:=A1 hl0 (.lst []);refine⟨fun σ' H'=>∃(o1 o2:Option V) (lp:Addr) (ps:List V),σ'=[some (.ref a),some (.ref b),some (.ref lp),o1,o2]/\Same H H'/\H lp=none/\H' lp=some (.lst ps)/\(∀v∈ps,PrK H H' (n+1) v)/\ps.length<=500000, ?_, ?_⟩
 ·refine⟨_,rfl,_,rfl,a,b,xs,ys,rfl,SqT.of (s0 _ _ ha),SqT.of (s0 _ _ hb),WI (t1:=true) (t2:=true) hle (λi σ' H'=>∃(o1 o2:Option V) (lp:Addr) (ps:List V),σ'=[some (.ref a),some (.ref b),some (.ref lp),o1,o2]/\Same H H'/\H lp=none/\H' lp=some (.lst ps)/\(∀v∈ps,PrK H H' (n+1) v)/\ps.length<=i*100001) ⟨_,_,l0,[],rfl,s0,hl0,A2,(λv hv=>nomatch hv),zero_le _⟩ ?_ ?_ ?_⟩
  ·rintro i σ' H' hi ⟨o1,o2,lp,ps,rfl,sm,_⟩;exact⟨SqT.of (sm _ _ ha),SqT.of (sm _ _ hb)⟩
  ·rintro i x y σ' H' T hx hy ⟨o1,o2,lp,ps,rfl,sm,hlpH,hlp,hps,hpl⟩ hT;obtain⟨x',hx',hE⟩:=hA.get hy;rw[hx]at hx';cases hx';have hi:i<4:=by have:=(List.getElem?_eq_some_iff.mp hx).1;omega
   have z6:(600000:Nat)<=sizeLine:=by decide
   have s1:=A1 hT (.tup [x,y]);refine⟨T,_,rfl,SqT.of A2,rfl,_,_,rfl,_,_,rfl,rfl, ?_⟩;refine⟨_,rfl,.inl ⟨rfl,_,SqL.of (s1 _ _ hlp)⟩,_,rfl,_,rfl,C5,λq2 hq2=>⟨lp,_,.ref q2,rfl,rfl,A1 hq2 _ _ _ (s1 _ _ hlp),by omega, ?_⟩⟩;have s2:=s1.trans (A1 hq2 (.tup [x,y]));have mm:Mo (upd (upd H' T (.tup [x,y])) q2 (.tup [x,y])) (upd (upd (upd H' T (.tup [x,y])) q2 (.tup [x,y])) lp (.lst (ps++ [.ref q2]))):=λb o hb=>by
    rw[B9 (BL hb (s2 _ _ hlp) (by intro z;cases z))];exact hb
   have sm4:Same H (upd (upd (upd H' T (.tup [x,y])) q2 (.tup [x,y])) lp (.lst (ps++ [.ref q2]))):=λb o hb=>by
    rw[B9 (C1 hb hlpH)];exact(sm.trans s2) _ _ hb
   have hlp4:(upd (upd (upd H' T (.tup [x,y])) q2 (.tup [x,y])) lp (.lst (ps++ [.ref q2]))) lp=some (.lst (ps++ [.ref q2])):=A2;have hps4:∀v∈ps,PrK H (upd (upd (upd H' T (.tup [x,y])) q2 (.tup [x,y])) lp (.lst (ps++ [.ref q2]))) (n+1) v:=λv hv=>(hps v hv).mono λb o hb=>mm _ _ (s2 _ _ hb);have hq4:PrK H (upd (upd (upd H' T (.tup [x,y])) q2 (.tup [x,y])) lp (.lst (ps++ [.ref q2]))) (n+1) (.ref q2):=⟨q2,x,y,rfl,mm _ _ A2,hE⟩;show tCut _ _ [some (.ref a),some (.ref b),some (.ref lp),some x,some y] (upd (upd (upd H' T (.tup [x,y])) q2 (.tup [x,y])) lp (.lst (ps++ [.ref q2])));generalize upd (upd (upd H' T (.tup [x,y])) q2 (.tup [x,y])) lp (.lst (ps++ [.ref q2]))=H4 at sm4 hlp4 hps4 hq4⊢;refine BH ?_;have keep:∃(o1 o2:Option V) (lp2:Addr) (ps2:List V),[some (.ref a),some (.ref b),some (.ref lp),some x,some y]=[some (V.ref a),some (.ref b),some (.ref lp2),o1,o2]/\Same H H4/\H lp2=none/\H4 lp2=some (.lst ps2)/\(∀v∈ps2,PrK H H4 (n+1) v)/\ps2.length<=(i+1)*100001:=⟨_,_,lp,_,rfl,sm4,hlpH,hlp4,λv hv=>(mem_append.mp hv).elim (hps4 v) λh=>by rw[sZ h];exact hq4,by rw[length_append,Nat.add_mul];simp only[length_cons,length_nil];omega⟩;rcases hE with⟨rfl,⟨j,rfl⟩|⟨j,rfl⟩|⟨j,rfl⟩⟩|⟨t,a',b',us,vs,rfl,rfl,ha',hb',hlen',hA'⟩
   ·exact⟨_,rfl,_,_,_,_,rfl,.int _,PV,_,rfl,ifF nZ (ifF nZ keep)⟩
   ·exact⟨_,rfl,_,_,_,_,rfl,.bl _,OV,_,rfl,ifF nZ (ifF nZ keep)⟩
   ·exact⟨_,rfl,_,_,_,_,rfl,.str _,bhZ,_,rfl,ifF nZ (ifF nZ keep)⟩
   cases t with
   |false=>exact⟨_,rfl,_,_,_,_,rfl,.lst (sm4 _ _ ha'),b0Z,_,rfl,ifF nZ (ifF nZ keep)⟩
   |true=>
    have hle':us.length=vs.length:=hA'.len;refine⟨_,rfl,_,_,_,_,rfl,.tup (sm4 _ _ ha'),FR,_,rfl,ifT rfl ⟨_,rfl,_,_,_,_,rfl,.tup (sm4 _ _ hb'),FR,_,rfl,ifT rfl ⟨_,rfl,_,_,rfl,.inr ⟨_,SqT.of (sm4 _ _ ha'),rfl⟩,_,rfl,_,_,rfl,.inr ⟨_,SqT.of (sm4 _ _ hb'),rfl⟩,.inl ⟨rfl,_,rfl,ifT (by rw[hle'];simp) ?_⟩⟩⟩⟩;refine⟨_,rfl,1,rfl,_,rfl,.inl ⟨lp,_,rfl,SqL.of hlp4,λc hc=> ?_⟩⟩;rw[HE];have e1:=A1 hc (.lst ps);refine⟨_,rfl,_,rfl,a',b',us,vs,rfl,.inl (SqT.of (e1 _ _ (sm4 _ _ ha'))),.inl (SqT.of (e1 _ _ (sm4 _ _ hb'))),by omega,λr H5 zs s5 _ hr5 hz5=> ?_⟩;have hzl:zs.length<=100000:=by rw[hz5.len];omega
    refine .inr (.inr ⟨c,r,ps,zs,rfl,rfl,s5 _ _ A2,hr5,by have:=Nat.mul_le_mul_right 100001 (show i<=3 by omega);omega,λc2 hc2=> ?_⟩);have e5:=e1.trans (s5.trans (A1 hc2 (.lst (ps++zs))));refine⟨_,_,c2,_,rfl,sm4.trans e5,none_of (sm4.trans (e1.trans s5)) hc2,A2,λv hv=> ?_,by rw[length_append,Nat.add_mul];omega⟩;rcases mem_append.mp hv with hv|hv
    ·exact(hps4 v hv).mono (A4 e5)
    ·exact(aLZ hz5 (hA'.imp λ_ _ h=>h.mono (le_succ _)) v hv).mono (A4 (A1 hc2 _))
  ·rintro σ' H' ⟨o1,o2,lp,ps,rfl,sm,h0,h1,h2,h3⟩;exact⟨o1,o2,lp,ps,rfl,sm,h0,h1,h2,by omega⟩
 rintro _ H2 ⟨o1,o2,lp,ps,rfl,sm,_,hlp,hps,hpl⟩;have z6:(500000:Nat)<=sizeLine:=by decide
 refine⟨_,rfl,lp,rfl,⟨_,SqL.of hlp⟩,OK (xs:=ps) (λi zs H'=>Same H2 H'/\zs=List.replicate i (V.bl true)) ⟨Same.refl _,rfl⟩ ?_ ?_ ?_⟩
 ·rintro i zs H' hi ⟨s',rfl⟩;refine⟨SqL.of (s' _ _ hlp), ?_⟩;rw[length_replicate];omega
 ·rintro i x zs H' hx ⟨s',rfl⟩;obtain⟨q2,v1,v2,rfl,hq2,hk⟩:=hps x (mem_of_getElem? hx);refine⟨q2,v1,v2,rfl,SqT.of (s' _ _ hq2),T3 ?_⟩;refine⟨_,rfl,_,rfl,K0,λl hl=>⟨v1,v2,l,400,H',rfl,hk.same (sm.trans s'),A1 hl _,hl,A2,λk' H3 s3 _=>⟨s'.trans s3, ?_⟩⟩⟩;rw[List.replicate_succ']
 ·rintro zs H' ⟨s',rfl⟩ D hD;refine⟨D,List.replicate ps.length true,rfl,SqL.of ?_, ?_⟩
  ·rw[A2,List.map_replicate]
  ·have e:(List.replicate ps.length true).all id=true:=by simp
   rw[e];exact q _ (sm.trans (s'.trans (A1 hD _)))
end
end _G
namespace _G
open PySem _L _B
noncomputable def QP:Tm->Nat
 | .cons _ r=>QP r+1
 |_=>0
noncomputable def tr:Tm->Prop
 | .cons a r=>tr a/\tr r
 | .fn _ b=>tr b
 | .two _ a b=>tr a/\tr b
 | .one _ a=>tr a
 | .ite c a b=>tr c/\tr a/\tr b
 | .let_ _ a b=>tr a/\tr b
 | .do_ a b=>tr a/\tr b
 | .call _ as=>QP as<=40/\tr as
 |_=>True
noncomputable def TD(t:Tm):Prop:=dt t<=49/\tr t
noncomputable def vd:Vl->Nat
 | .lst r=>vd r+2
 | .fn _ b e=>max (dt b) (vd e+1)+1
 | .cons a r=>max (max (vd a) (vd r)) (L7 r+1)
 | .bind e _ a=>max (max (vd e) (vd a+1)) (L7 e+1)
 |_=>0
theorem AN:∀v:Vl,L7 v<=vd v
 | .cons _ _=>le_max_right _ _
 | .bind _ _ _=>le_max_right _ _
 | .int _| .bl _| .lst _| .fn _ _ _| .nil=>zero_le _
noncomputable def tv:Vl->Prop
 | .lst r=>tv r
 | .fn _ b e=>TD b/\tv e
 | .cons a r=>tv a/\tv r
 | .bind e _ a=>tv e/\tv a
 |_=>True
noncomputable def VD(M:Nat)(v:Vl):Prop:=vd v<=M/\tv v
theorem VD.mono{M N:Nat}{v:Vl}(h:VD M v)(hm:M<=N):VD N v:=⟨Nat.le_trans h.1 hm,h.2⟩
noncomputable def FrD(M:Nat):Fr->Prop
 | .two _ t e=>TD t/\VD M e
 | .then_ _ a=>VD M a
 | .one _=>True
 | .ite a b e=>TD a/\TD b/\VD M e
 | .let_ _ b e=>TD b/\VD M e
 | .do_ a e=>TD a/\VD M e
 | .with_ f=>VD M f
 | .call _ vs ts e=>(∀v∈vs,VD M v)/\(∀t∈ts,TD t)/\vs.length+ts.length<=40/\VD M e
 | .back=>True
theorem FrD.mono{M N:Nat}(hm:M<=N):∀ {x:Fr},FrD M x->FrD N x
 | .two _ _ _,h=>⟨h.1,h.2.mono hm⟩
 | .then_ _ _,h=>VD.mono h hm
 | .one _,_=>trivial
 | .ite _ _ _,h=>⟨h.1,h.2.1,h.2.2.mono hm⟩
 | .let_ _ _ _,h=>⟨h.1,h.2.mono hm⟩
 | .do_ _ _,h=>⟨h.1,h.2.mono hm⟩
 | .with_ _,h=>VD.mono h hm
 | .call _ _ _ _,h=>⟨λv hv=>(h.1 v hv).mono hm,h.2.1,h.2.2.1,h.2.2.2.mono hm⟩
 | .back,_=>trivial
noncomputable def FoD(M:Nat):Fo->Prop
 | .term t e=>TD t/\VD M e
 | .val v=>VD M v
structure Sd (M:Nat) (s:Sta):Prop where
 fo:FoD M s.fo
 pl:∀x∈s.pile,FrD M x
noncomputable def RD(M:Nat):Res->Prop
 | .st s=>Sd M s
 | .value v=>VD M v
 |_=>True
theorem YK{z:Str}{M:Nat}:∀ {e v:Vl},look z e=some v->VD M e->VD M v
 | .bind e y a,v,h,hd=>by
  have h1:max (max (vd e) (vd a+1)) (L7 e+1)<=M:=hd.1;have h2:tv e/\tv a:=hd.2;unfold look at h;split at h
  ·cases h;exact⟨by omega,h2.2⟩
  ·exact YK h ⟨by omega,h2.1⟩
 | .int _,_,h,_| .bl _,_,h,_| .lst _,_,h,_| .fn _ _ _,_,h,_| .nil,_,h,_| .cons _ _,_,h,_=>by cases h
theorem YZ{M:Nat}:∀ {ns:List Str} {vs:List Vl} {e:Vl},(∀v∈vs,VD M v)->VD (M+1) e->L7 e+vs.length<=M+1->VD (M+1) (ZS e ns vs)
 | [],_,_,_,h,_=>h
 |_::_,[],_,_,h,_=>h
 |z::ns,v::vs,e,hv,h,hl=>by
  have h1:=hv v (mem_cons_self ..);simp only[length_cons]at hl;exact YZ (ns:=ns) (e:=.bind e z v) (λx hx=>hv x (mem_cons_of_mem _ hx)) ⟨by show max (max (vd e) (vd v+1)) (L7 e+1)<=_;have:=h.1;have:=h1.1;omega,h.2,h1.2⟩ (by show L7 e+1+vs.length<=_;omega)
theorem QB{M:Nat}{most:Int}{b:Tm}{e:Vl}{r:List Fr}{c d:Int}(hb:TD b)(he:VD M e)(hr:∀x∈r,FrD M x):RD M (FT most b e r c d):=by
 unfold FT;split
 ·trivial
 split
 ·trivial
 exact⟨⟨hb,he⟩,λx hx=>by
  rcases cZ hx with rfl|hx
  ·trivial
  ·exact hr x hx⟩
theorem XD:∀ {r t:Tm},t∈row r->dt r<=49->tr r->TD t
 | .cons a r,t,h,hd,ht=>by
  have hd:max (dt a) (dt r)<=49:=hd;rcases cZ h with rfl|h
  ·exact⟨by omega,ht.1⟩
  ·exact XD h (by omega) ht.2
theorem RR:∀r:Tm,(row r).length=QP r
 | .cons a r=>by show(row r).length+1=_;rw[RR r];rfl
 | .nil| .num _| .tru _| .non| .name _| .fn _ _| .two _ _ _| .one _ _| .ite _ _ _| .let_ _ _ _| .do_ _ _| .call _ _=>rfl
theorem YE{M:Nat}(n:Int)(r:List Fr)(c d:Int)(hr:∀x∈r,FrD M x):RD M (out (HY n) r c d):=by
 unfold HY;split
 ·trivial
 ·exact⟨⟨zero_le _,trivial⟩,hr⟩
theorem cPZ{M:Nat}{s:Str}{a v:Vl}{o:Out}{r:List Fr}{c d:Int}(h:Two s a v o)(ha:VD M a)(hv:VD M v)(hr:∀x∈r,FrD (M+2) x):RD (M+2) (out o r c d):=by
 cases h with
 | @num k a b hk=>
  match k,hk with
  |0,_=>exact YE _ _ _ _ hr
  |1,_=>exact YE _ _ _ _ hr
  |2,_=>exact YE _ _ _ _ hr
  |3,_=>exact⟨⟨zero_le _,trivial⟩,hr⟩
  |4,_=>exact⟨⟨zero_le _,trivial⟩,hr⟩
  |5,_=>
   show RD _ (out (if b=0 then .ref "nought"else .val (.int (a.fdiv b))) r c d);split
   ·trivial
   ·exact⟨⟨zero_le _,trivial⟩,hr⟩
 | @cons a r'=>
  have h1:vd r'+2<=M:=hv.1;have h2:=AN r';exact⟨⟨by show max (max (vd a) (vd r')) (L7 r'+1)+2<=_;have:=ha.1;omega,ha.2,hv.2⟩,hr⟩
theorem cHZ{M:Nat}{s:Str}{v:Vl}{o:Out}{r:List Fr}{c d:Int}(h:One s v o)(hv:VD M v)(hr:∀x∈r,FrD M x):RD M (out o r c d):=by
 cases h with
 |not|emptyT|emptyF=>exact⟨⟨zero_le _,trivial⟩,hr⟩
 |headN|tailN=>trivial
 | @head a r'=>
  have h1:max (max (vd a) (vd r')) (L7 r'+1)+2<=M:=hv.1;exact⟨⟨by show vd a<=M;omega,hv.2.1⟩,hr⟩
 | @tail a r'=>
  have h1:max (max (vd a) (vd r')) (L7 r'+1)+2<=M:=hv.1;exact⟨⟨by show vd r'+2<=M;omega,hv.2.2⟩,hr⟩
theorem cmZ{D:List Dn}{most:Int}{s:Sta}{r:Res}{M:Nat}(h:Stp D most s r)(hs:Sd M s)(hD:∀d∈D,TD d.body)(hM:47<=M):RD (M+2) r:=by
 have up:M<=M+2:=by omega
 cases h with
 | @once t e v pl c d hv=>
  obtain⟨⟨h1,h2⟩,h3⟩:=hs;refine⟨?_,λx hx=>(h3 x hx).mono up⟩;cases hv with
  |num|tru|non=>exact⟨by show _<=_;simp only[vd];omega,trivial⟩
  |name hl=>exact(YK hl h2).mono up
  | @fn z b=>
   have h1':dt b+1<=49:=h1.1;exact⟨by show max (dt b) (vd e+1)+1<=_;have:=h2.1;omega,⟨by omega,h1.2⟩,h2.2⟩
 | @call0 z dn e pl c d hd _=>exact QB (hD _ (List.mem_of_find?_eq_some hd)) ⟨zero_le _,trivial⟩ λx hx=>(hs.pl x hx).mono up
 | @wait t e t1 fr pl c d hw=>
  obtain⟨⟨h1,h2⟩,h3⟩:=hs;have h2:=h2.mono up;have go:TD t1->FrD (M+2) fr->RD (M+2) (.st ⟨.term t1 e,fr::pl,c,d⟩):=λha hf=>⟨⟨ha,h2⟩,λx hx=>by
   rcases cZ hx with rfl|hx
   ·exact hf
   ·exact(h3 x hx).mono up⟩
  obtain⟨h1,hr⟩:=h1;cases hw with
  | @two s a b=>have h1:max (dt t1) (dt b)+1<=49:=h1;exact go ⟨by omega,hr.1⟩ ⟨⟨by omega,hr.2⟩,h2⟩
  | @one w a=>have h1:dt t1+1<=49:=h1;exact go ⟨by omega,hr⟩ trivial
  | @ite c a b=>have h1:max (dt t1) (max (dt a) (dt b))+1<=49:=h1;exact go ⟨by omega,hr.1⟩ ⟨⟨by omega,hr.2.1⟩,⟨by omega,hr.2.2⟩,h2⟩
  | @let_ z a b=>have h1:max (dt t1) (dt b)+1<=49:=h1;exact go ⟨by omega,hr.1⟩ ⟨⟨by omega,hr.2⟩,h2⟩
  | @do_ f a=>have h1:max (dt t1) (dt a)+1<=49:=h1;exact go ⟨by omega,hr.1⟩ ⟨⟨by omega,hr.2⟩,h2⟩
  | @call z a r=>
   have h1:max (dt t1) (dt r)+2<=49:=h1;have hr1:QP r+1<=40:=hr.1;exact go ⟨by omega,hr.2.1⟩ ⟨(λv hv=>nomatch hv),λt ht=>XD ht (by omega) hr.2.2,by rw[RR];simp only[length_nil];omega,h2⟩
 |value=>exact hs.fo.mono up
 |back=>exact⟨hs.fo.mono up,λx hx=>(hs.pl x (mem_cons_of_mem _ hx)).mono up⟩
 |one ho=>exact cHZ ho (hs.fo.mono up) λx hx=>(hs.pl x (mem_cons_of_mem _ hx)).mono up
 |then_ ho=>exact cPZ ho (hs.pl _ (mem_cons_self ..)) hs.fo λx hx=>(hs.pl x (mem_cons_of_mem _ hx)).mono up
 | @with_ z b e v pl c d=>
  have h1:VD M (.fn z b e):=hs.pl _ (mem_cons_self ..);have h2:VD M v:=hs.fo;have h3:max (dt b) (vd e+1)+1<=M:=h1.1;exact QB h1.2.1 ⟨by show max (max (vd e) (vd v+1)) (L7 e+1)<=_;have:=h2.1;have:=AN e;omega,h1.2.2,h2.2⟩ λx hx=>(hs.pl x (mem_cons_of_mem _ hx)).mono up
 | @call z vs e v dn pl c d hd _=>
  have h1:FrD M (.call z vs [] e):=hs.pl _ (mem_cons_self ..);refine QB (hD _ (List.mem_of_find?_eq_some hd)) ((YZ (M:=M) (e:=.nil) (λx hx=> ?_) ⟨zero_le _,trivial⟩ (by show 0+_<=_;have:=h1.2.2.1;simp only[length_append,length_cons,length_nil]at this⊢;omega)).mono (by omega)) λx hx=>(hs.pl x (mem_cons_of_mem _ hx)).mono up;rcases mem_append.mp hx with hx|hx
  ·exact h1.1 x hx
  ·rw[sZ hx];exact hs.fo
 | @to fr v fo fs pl c d ht=>
  have h1:=hs.pl _ (mem_cons_self ..);have h2:VD M v:=hs.fo;have h3:∀x∈pl,FrD (M+2) x:=λx hx=>(hs.pl x (mem_cons_of_mem _ hx)).mono up;have hh:∀ {f:Fr},FrD (M+2) f->∀x∈ [f]++pl,FrD (M+2) x:=λ{f} hf x hx=>by
   rcases mem_append.mp hx with hx|hx
   ·rw[sZ hx];exact hf
   ·exact h3 x hx
  cases ht with
  | @ite a b e c=>
   have h1:TD a/\TD b/\VD M e:=h1;exact⟨⟨by cases c;exact h1.2.1;exact h1.1,h1.2.2.mono up⟩,h3⟩
  | @let_ z b e v=>
   have h1:TD b/\VD M e:=h1;exact⟨⟨h1.1,by show max (max (vd e) (vd v+1)) (L7 e+1)<=_;have:=h1.2.1;have:=h2.1;have:=AN e;omega,h1.2.2,h2.2⟩,h3⟩
  |two=>
   have h1:_/\_:=h1;exact⟨⟨h1.1,h1.2.mono up⟩,hh (f:=.then_ _ _) (h2.mono up)⟩
  |do_=>
   have h1:_/\_:=h1;exact⟨⟨h1.1,h1.2.mono up⟩,hh (f:=.with_ _) (h2.mono up)⟩
  | @call z vs t ts e v=>
   have h1:(∀v∈vs,VD M v)/\(∀t'∈t::ts,TD t')/\vs.length+(t::ts).length<=40/\VD M e:=h1;refine⟨⟨h1.2.1 _ (mem_cons_self ..),h1.2.2.2.mono up⟩,hh (f:=.call z (vs++ [v]) ts e) ⟨λx hx=> ?_,λt' ht=>h1.2.1 t' (mem_cons_of_mem _ ht),by have:=h1.2.2.1;simp only[length_append,length_cons,length_nil]at this⊢;omega,h1.2.2.2.mono up⟩⟩;rcases mem_append.mp hx with hx|hx
   ·exact(h1.1 x hx).mono up
   ·rw[sZ hx];exact h2.mono up
theorem UY{i:Int}:Lk (.int i) (.int i):=⟨rfl,.inl ⟨i,rfl⟩⟩
theorem bEZ{i:Bool}:Lk (.bl i) (.bl i):=⟨rfl,.inr (.inl ⟨i,rfl⟩)⟩
theorem N3{i:Str}:Lk (.str i) (.str i):=⟨rfl,.inr (.inr ⟨i,rfl⟩)⟩
theorem Q3{H:Hp}{n:Nat}{a b:Addr}{xs ys:List V}(ha:H a=some (.tup xs))(hb:H b=some (.tup ys))(hl:xs.length<=100000)(h:All2 (Ak H n) xs ys):Ak H (n+1) (.ref a) (.ref b):=.inr ⟨true,a,b,xs,ys,rfl,rfl,ha,hb,hl,h⟩
theorem JT{H:Hp}{n m:Nat}{xs ys:List V}(h:All2 (Ak H n) xs ys)(hm:n<=m):All2 (Ak H m) xs ys:=h.imp λ_ _ h=>h.mono hm
theorem YT{H:Hp}:∀ {t:Tm} {us:List V},TA H t (.inr us)->us.length=QP t
 |_,_,.nil=>rfl
 |_,_,.cons _ h=>by rw[length_cons,YT h];rfl
theorem V7{H:Hp}:∀ {t:Tm},tr t->(∀ {u v:V},T1 H t u->T1 H t v->Ak H (dt t) u v)/\∀ {us vs:List V},TA H t (.inr us)->TA H t (.inr vs)->All2 (Ak H (dt t)) us vs
 | .nil,_=>⟨(λh _=>by cases h),λh g=>by cases h;cases g;exact .nil⟩
 | .cons a r,ht=>⟨(λh _=>by cases h),λh g=>by
  cases h with
  |cons h1 h2=>cases g with
   |cons g1 g2=>exact .cons (((V7 ht.1).1 h1 g1).mono (le_max_left _ _)) (JT ((V7 ht.2).2 h2 g2) (le_max_right _ _))⟩
 | .num n,_=>⟨(λh g=>by cases h with
  |num h=>cases g with
   |num g=>exact Q3 h g (by show 2<=100000;decide) (.cons (.lk N3) (.cons (.lk UY) .nil))),λh _=>by cases h⟩
 | .tru n,_=>⟨(λh g=>by cases h with
  |tru h=>cases g with
   |tru g=>exact Q3 h g (by show 2<=100000;decide) (.cons (.lk N3) (.cons (.lk bEZ) .nil))),λh _=>by cases h⟩
 | .non,_=>⟨(λh g=>by cases h with
  |non h=>cases g with
   |non g=>exact Q3 h g (by show 1<=100000;decide) (.cons (.lk N3) .nil)),λh _=>by cases h⟩
 | .name n,_=>⟨(λh g=>by cases h with
  |name h=>cases g with
   |name g=>exact Q3 h g (by show 2<=100000;decide) (.cons (.lk N3) (.cons (.lk N3) .nil))),λh _=>by cases h⟩
 | .fn z b,ht=>⟨(λh g=>by cases h with
  |fn h h1=>cases g with
   |fn g g1=>exact Q3 h g (by show 3<=100000;decide) (.cons (.lk N3) (.cons (.lk N3) (.cons ((V7 (t:=b) ht).1 h1 g1) .nil)))),λh _=>by cases h⟩
 | .two s a b,ht=>⟨(λh g=>by cases h with
  |two h h1 h2=>cases g with
   |two g g1 g2=>exact Q3 h g (by show 4<=100000;decide) (.cons (.lk N3) (.cons (.lk N3) (.cons (((V7 ht.1).1 h1 g1).mono (le_max_left _ _)) (.cons (((V7 ht.2).1 h2 g2).mono (le_max_right _ _)) .nil))))),λh _=>by cases h⟩
 | .one s a,ht=>⟨(λh g=>by cases h with
  |one h h1=>cases g with
   |one g g1=>exact Q3 h g (by show 3<=100000;decide) (.cons (.lk N3) (.cons (.lk N3) (.cons ((V7 (t:=a) ht).1 h1 g1) .nil)))),λh _=>by cases h⟩
 | .ite c a b,ht=>⟨(λh g=>by cases h with
  |ite h h1 h2 h3=>cases g with
   |ite g g1 g2 g3=>exact Q3 h g (by show 4<=100000;decide) (.cons (.lk N3) (.cons (((V7 ht.1).1 h1 g1).mono (le_max_left _ _)) (.cons (((V7 ht.2.1).1 h2 g2).mono (Nat.le_trans (le_max_left _ _) (le_max_right _ _))) (.cons (((V7 ht.2.2).1 h3 g3).mono (Nat.le_trans (le_max_right _ _) (le_max_right _ _))) .nil))))),λh _=>by cases h⟩
 | .let_ z a b,ht=>⟨(λh g=>by cases h with
  |let_ h h1 h2=>cases g with
   |let_ g g1 g2=>exact Q3 h g (by show 4<=100000;decide) (.cons (.lk N3) (.cons (.lk N3) (.cons (((V7 ht.1).1 h1 g1).mono (le_max_left _ _)) (.cons (((V7 ht.2).1 h2 g2).mono (le_max_right _ _)) .nil))))),λh _=>by cases h⟩
 | .do_ a b,ht=>⟨(λh g=>by cases h with
  |do_ h h1 h2=>cases g with
   |do_ g g1 g2=>exact Q3 h g (by show 3<=100000;decide) (.cons (.lk N3) (.cons (((V7 ht.1).1 h1 g1).mono (le_max_left _ _)) (.cons (((V7 ht.2).1 h2 g2).mono (le_max_right _ _)) .nil)))),λh _=>by cases h⟩
 | .call z as,ht=>⟨(λh g=>by cases h with
  |call h h1 h2=>cases g with
   |call g g1 g2=>exact Q3 h g (by show 3<=100000;decide) (.cons (.lk N3) (.cons (.lk N3) (.cons (Q3 h1 g1 (by rw[YT h2];have:=ht.1;omega) ((V7 ht.2).2 h2 g2)) .nil)))),λh _=>by cases h⟩
theorem EW{H:Hp}:∀ {v:Vl},tv v->vd v<=100000->(∀ {u w:V},V1 H v u->V1 H v w->Ak H (vd v) u w)/\∀ {b:Bool} {us ws:List V},VA H v (.inr (b,us))->VA H v (.inr (b,ws))->All2 (Ak H (vd v)) us ws
 | .int n,_,_=>⟨(λh g=>by cases h;cases g;exact .lk UY),λh _=>by cases h⟩
 | .bl n,_,_=>⟨(λh g=>by cases h;cases g;exact .lk bEZ),λh _=>by cases h⟩
 | .nil,_,_=>⟨(λh _=>by cases h),λh g=>by cases h;cases g;exact .nil⟩
 | .lst r,ht,hm=>⟨(λh g=>by
   have hm:vd r+2<=100000:=hm;have hl:=AN r;cases h with
   |lst h h1 h2=>cases g with
    |lst g g1 g2=>exact Q3 h g (by show 2<=100000;decide) (.cons (.lk N3) (.cons (Q3 h1 g1 (by rw[h2.len];omega) ((EW (v:=r) ht (by omega)).2 h2 g2)) .nil))),λh _=>by cases h⟩
 | .fn z b e,ht,hm=>⟨(λh g=>by
   have hm:max (dt b) (vd e+1)+1<=100000:=hm;have hl:=AN e;cases h with
   |fn h h0 h1 h2=>cases g with
    |fn g g0 g1 g2=>exact Q3 h g (by show 4<=100000;decide) (.cons (.lk N3) (.cons (.lk N3) (.cons (((V7 ht.1.2).1 h0 g0).mono (le_max_left _ _)) (.cons ((Q3 h1 g1 (by rw[h2.len];omega) ((EW ht.2 (by omega)).2 h2 g2)).mono (le_max_right _ _)) .nil))))),λh _=>by cases h⟩
 | .cons a r,ht,hm=>⟨(λh _=>by cases h),λh g=>by
   have hm:max (max (vd a) (vd r)) (L7 r+1)<=100000:=hm;cases h with
   |cons h1 h2=>cases g with
    |cons g1 g2=>exact .cons (((EW ht.1 (by omega)).1 h1 g1).mono (by show _<=max (max (vd a) (vd r)) (L7 r+1);omega)) (JT ((EW ht.2 (by omega)).2 h2 g2) (by show _<=max (max (vd a) (vd r)) (L7 r+1);omega))⟩
 | .bind e z a,ht,hm=>⟨(λh _=>by cases h),λh g=>by
   have hm:max (max (vd e) (vd a+1)) (L7 e+1)<=100000:=hm;cases h with
   |bind h1 h2 h3=>cases g with
    |bind g1 g2 g3=>exact(JT ((EW ht.1 (by omega)).2 h1 g1) (by show _<=max (max (vd e) (vd a+1)) (L7 e+1);omega)).app (.cons ((Q3 h2 g2 (by show 2<=100000;decide) (.cons (.lk N3) (.cons ((EW ht.2 (by omega)).1 h3 g3) .nil))).mono (by show _<=max (max (vd e) (vd a+1)) (L7 e+1);omega)) .nil)⟩
theorem UX{H:Hp}:∀ {v:Vl} {us:List V},PA' H v (.inr us)->us.length=L7 v
 |_,_,.nil=>rfl
 |_,_,.cons _ h=>by rw[length_cons,UX h];rfl
theorem SA{H:Hp}:∀ {v:Vl},vd v<=100000->(∀ {u w:V},PA' H v (.inl u)->PA' H v (.inl w)->Ak H (vd v) u w)/\∀ {us ws:List V},PA' H v (.inr us)->PA' H v (.inr ws)->All2 (Ak H (vd v)) us ws
 | .int n,_=>⟨(λh g=>by cases h;cases g;exact .lk UY),λh _=>by cases h⟩
 | .bl n,_=>⟨(λh g=>by cases h;cases g;exact .lk bEZ),λh _=>by cases h⟩
 | .nil,_=>⟨(λh _=>by cases h),λh g=>by cases h;cases g;exact .nil⟩
 | .lst r,hm=>⟨(λh g=>by
   have hm:vd r+2<=100000:=hm;have hl:=AN r;cases h with
   |lst h h2=>cases g with
    |lst g g2=>exact .inr ⟨false,_,_,_,_,rfl,rfl,h,g,by rw[UX h2];omega,JT ((SA (v:=r) (by omega)).2 h2 g2) (le_succ _)⟩),λh _=>by cases h⟩
 | .fn _ _ _,_=>⟨(λh _=>by cases h),λh _=>by cases h⟩
 | .bind _ _ _,_=>⟨(λh _=>by cases h),λh _=>by cases h⟩
 | .cons a r,hm=>⟨(λh _=>by cases h),λh g=>by
   have hm:max (max (vd a) (vd r)) (L7 r+1)<=100000:=hm;cases h with
   |cons h1 h2=>cases g with
    |cons g1 g2=>exact .cons (((SA (by omega)).1 h1 g1).mono (by show _<=max (max (vd a) (vd r)) (L7 r+1);omega)) (JT ((SA (by omega)).2 h2 g2) (by show _<=max (max (vd a) (vd r)) (L7 r+1);omega))⟩
section
variable{H:Hp}{M:Nat}
theorem JQ{e:Vl}{u w:V}(hd:VD M e)(hM:M<=90000)(h:EA H e u)(g:EA H e w):Ak H (M+1) u w:=by
 obtain⟨q,us,rfl,h1,h2⟩:=h;obtain⟨q',us',rfl,g1,g2⟩:=g;have h0:=hd.1;have hl:=AN e;exact Q3 h1 g1 (by rw[h2.len];omega) (JT ((EW hd.2 (by omega)).2 h2 g2) hd.1)
theorem JY{t:Tm}{u w:V}(hd:TD t)(hM:49<=M)(h:T1 H t u)(g:T1 H t w):Ak H (M+1) u w:=((V7 hd.2).1 h g).mono (by have:=hd.1;omega)
theorem VQ{v:Vl}{u w:V}(hd:VD M v)(hM:M<=90000)(h:V1 H v u)(g:V1 H v w):Ak H (M+1) u w:=((EW hd.2 (by have:=hd.1;omega)).1 h g).mono (by have:=hd.1;omega)
theorem bfZ{vs:List Vl}{us ws:List V}(hd:∀v∈vs,VD M v)(hM:M<=90000)(h:All2 (V1 H) vs us)(g:All2 (V1 H) vs ws):All2 (Ak H M) us ws:=by
 induction h generalizing ws with
 |nil=>cases g;exact .nil
 |cons h1 h2 ih=>cases g with
  |cons g1 g2=>
   have h0:=hd _ (mem_cons_self ..);exact .cons (((EW h0.2 (by have:=h0.1;omega)).1 h1 g1).mono h0.1) (ih (λv hv=>hd v (mem_cons_of_mem _ hv)) g2)
theorem bjZ{ts:List Tm}{us ws:List V}(hd:∀t∈ts,TD t)(hM:49<=M)(h:All2 (T1 H) ts us)(g:All2 (T1 H) ts ws):All2 (Ak H M) us ws:=by
 induction h generalizing ws with
 |nil=>cases g;exact .nil
 |cons h1 h2 ih=>cases g with
  |cons g1 g2=>
   have h0:=hd _ (mem_cons_self ..);exact .cons (((V7 h0.2).1 h1 g1).mono (by have:=h0.1;omega)) (ih (λv hv=>hd v (mem_cons_of_mem _ hv)) g2)
theorem ctZ{fr:Fr}{u w:V}(hd:FrD M fr)(h49:49<=M)(hM:M<=90000)(h:FA H fr u)(g:FA H fr w):Ak H (M+2) u w:=by
 cases h with
 |two h h1 h2=>cases g with
  |two g g1 g2=>exact Q3 h g (by show 4<=100000;decide) (.cons (.lk N3) (.cons (.lk N3) (.cons (JY hd.1 h49 h1 g1) (.cons (JQ hd.2 hM h2 g2) .nil))))
 |then_ h h1=>cases g with
  |then_ g g1=>exact Q3 h g (by show 3<=100000;decide) (.cons (.lk N3) (.cons (.lk N3) (.cons (VQ hd hM h1 g1) .nil)))
 |one h=>cases g with
  |one g=>exact Q3 h g (by show 2<=100000;decide) (.cons (.lk N3) (.cons (.lk N3) .nil))
 |ite h h1 h2 h3=>cases g with
  |ite g g1 g2 g3=>exact Q3 h g (by show 4<=100000;decide) (.cons (.lk N3) (.cons (JY hd.1 h49 h1 g1) (.cons (JY hd.2.1 h49 h2 g2) (.cons (JQ hd.2.2 hM h3 g3) .nil))))
 |let_ h h1 h2=>cases g with
  |let_ g g1 g2=>exact Q3 h g (by show 4<=100000;decide) (.cons (.lk N3) (.cons (.lk N3) (.cons (JY hd.1 h49 h1 g1) (.cons (JQ hd.2 hM h2 g2) .nil))))
 |do_ h h1 h2=>cases g with
  |do_ g g1 g2=>exact Q3 h g (by show 3<=100000;decide) (.cons (.lk N3) (.cons (JY hd.1 h49 h1 g1) (.cons (JQ hd.2 hM h2 g2) .nil)))
 |with_ h h1=>cases g with
  |with_ g g1=>exact Q3 h g (by show 2<=100000;decide) (.cons (.lk N3) (.cons (VQ hd hM h1 g1) .nil))
 | @call z vs ts e _ _ _ _ _ _ h hq h1 hr h2 h3=>cases g with
  |call g gq g1 gr g2 g3=>
   have hl:=hd.2.2.1;exact Q3 h g (by show 5<=100000;decide) (.cons (.lk N3) (.cons (.lk N3) (.cons (Q3 hq gq (by rw[<-h1.len];omega) (bfZ hd.1 hM h1 g1)) (.cons (Q3 hr gr (by rw[<-h2.len];omega) (bjZ hd.2.1 h49 h2 g2)) (.cons (JQ hd.2.2.2 hM h3 g3) .nil)))))
 |back h=>cases g with
  |back g=>exact Q3 h g (by show 1<=100000;decide) (.cons (.lk N3) .nil)
theorem b5Z{fs:List Fr}{us ws:List V}(hd:∀x∈fs,FrD M x)(h49:49<=M)(hM:M<=90000)(h:All2 (FA H) fs us)(g:All2 (FA H) fs ws):All2 (Ak H (M+2)) us ws:=by
 induction h generalizing ws with
 |nil=>cases g;exact .nil
 |cons h1 h2 ih=>cases g with
  |cons g1 g2=>exact .cons (ctZ (hd _ (mem_cons_self ..)) h49 hM h1 g1) (ih (λv hv=>hd v (mem_cons_of_mem _ hv)) g2)
theorem cLZ{fo:Fo}{u w:V}(hd:FoD M fo)(h49:49<=M)(hM:M<=90000)(h:FoA H fo u)(g:FoA H fo w):Ak H (M+2) u w:=by
 cases h with
 |term h h1 h2=>cases g with
  |term g g1 g2=>exact Q3 h g (by show 3<=100000;decide) (.cons (.lk N3) (.cons (JY hd.1 h49 h1 g1) (.cons (JQ hd.2 hM h2 g2) .nil)))
 |val h h1=>cases g with
  |val g g1=>exact Q3 h g (by show 2<=100000;decide) (.cons (.lk N3) (.cons (VQ hd hM h1 g1) .nil))
theorem cKZ{r:Res}{u w:V}(hd:RD M r)(h49:49<=M)(hM:M<=90000)(hp:∀s,r=.st s->s.pile.length<=10000)(h:ReA H r u)(g:ReA H r w):∃a b xs ys,u=.ref a/\w=.ref b/\H a=some (.tup xs)/\H b=some (.tup ys)/\xs.length<=4/\All2 (Ak H (M+3)) xs ys:=by
 cases r with
 |st s=>
  obtain⟨p,f,l,rfl,h1,h2,pl,us,rfl,h3,h4⟩:=h;obtain⟨p',f',l',rfl,g1,g2,pl',us',rfl,g3,g4⟩:=g;have hp:=hp s rfl;exact⟨p,p',_,_,rfl,rfl,h1,g1,by show 4<=4;decide,.cons ((cLZ hd.fo h49 hM h2 g2).mono (by omega)) (.cons (Q3 h3 g3 (by rw[<-h4.len,length_reverse];omega) (b5Z (λx hx=>hd.pl x (List.mem_reverse.mp hx)) h49 hM h4 g4)) (.cons (.lk UY) (.cons (.lk UY) .nil)))⟩
 |dry=>
  obtain⟨p,rfl,h1⟩:=h;obtain⟨p',rfl,g1⟩:=g;exact⟨p,p',_,_,rfl,rfl,h1,g1,by show 1<=4;decide,.cons (.lk N3) .nil⟩
 |deep=>
  obtain⟨p,rfl,h1⟩:=h;obtain⟨p',rfl,g1⟩:=g;exact⟨p,p',_,_,rfl,rfl,h1,g1,by show 1<=4;decide,.cons (.lk N3) .nil⟩
 |refd z=>
  obtain⟨p,rfl,h1⟩:=h;obtain⟨p',rfl,g1⟩:=g;exact⟨p,p',_,_,rfl,rfl,h1,g1,by show 2<=4;decide,.cons (.lk N3) (.cons (.lk N3) .nil)⟩
 |value v=>
  obtain⟨p,u1,rfl,h1,h2⟩:=h;obtain⟨p',u2,rfl,g1,g2⟩:=g;have h0:=hd.1;exact⟨p,p',_,_,rfl,rfl,h1,g1,by show 2<=4;decide,.cons (.lk N3) (.cons (((SA (by omega)).1 h2 g2).mono (by omega)) .nil)⟩
end
theorem czZ{F:Fs}{g:Cx}{t:Tm}{k:Kx}(hF:∀z ks k,F.lookup z=some (ks,k)->ks.length<=4)(h:Ty F g t k):tr t/\∀ks,k=.r ks->QP t=ks.length:=by
 induction h with
 |nil=>exact⟨trivial,λks e=>by cases e;rfl⟩
 |cons _ _ i1 i2=>exact⟨⟨i1.1,i2.1⟩,λks e=>by cases e;show QP _+1=_;rw[i2.2 _ rfl];rfl⟩
 |num _ _|tru|non|name _=>exact⟨trivial,λks e=>nomatch e⟩
 |fn _ i=>exact⟨i.1,λks e=>nomatch e⟩
 |two _ _ _ i1 i2=>exact⟨⟨i1.1,i2.1⟩,λks e=>nomatch e⟩
 |cat _ _ i1 i2=>exact⟨⟨i1.1,i2.1⟩,λks e=>nomatch e⟩
 |not _ i|empty _ i|head _ i|tail _ i=>exact⟨i.1,λks e=>nomatch e⟩
 |ite _ _ _ i1 i2 i3=>exact⟨⟨i1.1,i2.1,i3.1⟩,λks e=>nomatch e⟩
 |let_ _ _ i1 i2=>exact⟨⟨i1.1,i2.1⟩,λks e=>nomatch e⟩
 |do_ _ _ i1 i2=>exact⟨⟨i1.1,i2.1⟩,λks e=>nomatch e⟩
 |call hf _ i=>exact⟨⟨by rw[i.2 _ rfl];have:=hF _ _ _ hf;omega,i.1⟩,λks e=>nomatch e⟩
theorem aIZ{F:Fs}{N c d:Nat}:∀ {r:Vl} {k:Kd},W F N r (.row k)->(∀ {v},W F N v (.k k)->plv false v=true/\sz2 false v<=c/\dv v<=d)->plv true r=true/\sz2 true r<=L7 r*c/\dv r<=d
 |_,_,.nil,_=>⟨rfl,zero_le _,zero_le _⟩
 | .cons a r,_,.cons h1 h2 _,hk=>by
  obtain⟨a1,a2,a3⟩:=hk h1;obtain⟨b1,b2,b3⟩:=aIZ h2 hk;refine⟨by simp[plv,a1,b1], ?_,by show max _ _<=d;omega⟩;show sz2 false a+sz2 true r<=(L7 r+1)*c;rw[Nat.add_mul];omega
theorem RB{F:Fs}{N c d:Nat}{v:Vl}{k:Kd}(h:W1 F N v (.lst k))(hk:∀ {v},W F N v (.k k)->plv false v=true/\sz2 false v<=c/\dv v<=d):plv false v=true/\sz2 false v<=1+N*c/\dv v<=d+1:=by
 cases h with
 |lst h=>
  obtain⟨h1,h2,h3⟩:=aIZ h hk;exact⟨by simpa [plv]using h1,Nat.add_le_add_left (Nat.le_trans h2 (Nat.mul_le_mul_right _ h.vl)) 1,succ_le_succ h3⟩
theorem ZA{F:Fs}{N:Nat}{v:Vl}(h:W1 F N v .num):plv false v=true/\sz2 false v<=1/\dv v<=0:=by cases h;exact⟨rfl,Nat.le_refl _,Nat.le_refl _⟩
theorem aCZ{F:Fs}{N:Nat}{v:Vl}(h:W1 F N v .tru):plv false v=true/\sz2 false v<=1/\dv v<=0:=by cases h;exact⟨rfl,Nat.le_refl _,Nat.le_refl _⟩
theorem HK{F:Fs}{N:Nat}{v:Vl}{k:Kd}(hk:LI k)(h:W1 F N v k)(hN:N<=500):plv false v=true/\sz2 false v<=400000/\dv v<=2:=by
 rcases hk with rfl|rfl|rfl|rfl|rfl
 ·obtain⟨a,b,c⟩:=ZA h;exact⟨a,by omega,by omega⟩
 ·obtain⟨a,b,c⟩:=aCZ h;exact⟨a,by omega,by omega⟩
 ·obtain⟨a,b,c⟩:=RB h ZA;exact⟨a,by omega,by omega⟩
 ·obtain⟨a,b,c⟩:=RB h aCZ;exact⟨a,by omega,by omega⟩
 ·obtain⟨a,b,c⟩:=RB h λh=>RB h ZA;have:N*(1+N*1)<=500*(1+500*1):=Nat.mul_le_mul hN (by omega);exact⟨a,by omega,by omega⟩
theorem OS{F:Fs}{N:Nat}{v:Vl}{k:Kd}(h:W1 F N v k):BdV v:=by
 cases h with
 |int h1 h2=>exact⟨h1,h2⟩
 |bl|lst _|fn _ _ _=>exact trivial
theorem b3Z{F:Fs}{D:List Dn}{N:Nat}{fr:Fr}{a b:Kd}(hD:DTy F D)(hN:N<=500)(h:FTy F N fr a b):OQ fr/\bdF fr:=by
 cases h with
 |two _ _ _|cat _ _|not|empty|head|tail|ite _ _ _|do_ _ _|back=>exact⟨trivial,trivial⟩
 |then_ _ h=>exact⟨trivial,OS h⟩
 |thenC h=>exact⟨trivial,OS h⟩
 |let_ _ h=>obtain⟨gl,h1,_⟩:=h;exact⟨by have:=h1.vl;show L7 _<=1000;omega,trivial⟩
 |with_ h=>cases h with
  |fn h1 _ _=>exact⟨by have:=h1.vl;show L7 _<=1000;omega,trivial⟩
 |call hf hv ht _=>
  have h4:=(hD.of _ _ _ hf).1;have e1:=hv.len;have e2:=ht.len;simp only[length_append,length_cons]at h4;exact⟨⟨by omega,by omega⟩,trivial⟩
theorem bqZ{F:Fs}{D:List Dn}{N:Nat}{kl k:Kd}{fs:List Fr}(hD:DTy F D)(hN:N<=500)(h:PTy F N kl fs k):∀x∈fs,OQ x/\bdF x:=by
 induction h with
 |nil=>exact λx hx=>nomatch hx
 |cons h1 _ ih=>
  intro x hx;rcases cZ hx with rfl|hx
  ·exact b3Z hD hN h1
  ·exact ih x hx
theorem bHZ{F:Fs}{D:List Dn}{N:Nat}{kl:Kd}{s:Sta}(hD:DTy F D)(hN:N<=500)(hk:LI kl)(h:StTy F N kl s):Okk s/\∀v,s.fo=.val v->s.pile=[]->dv v<=2:=by
 obtain⟨fo,pl,c,d⟩:=s;obtain⟨⟨k,hfo,hp⟩,hl⟩:=h;have hl:pl.length<=N:=hl;refine⟨⟨by show pl.length<=10000;omega,bqZ hD hN hp,λt e he=> ?_,λv hv=> ?_⟩,λv hv hpl=> ?_⟩
 ·have he:fo=.term t e:=he;subst he;cases hfo with
  |term _ h=>obtain⟨gl,h1,_⟩:=h;have:=h1.vl;omega
 ·have hv:fo=.val v:=hv;subst hv;cases hfo with
  |val h=>
   refine⟨OS h,λr e=> ?_,λe=> ?_⟩
   ·subst e;cases h with
    |lst h=>have:=h.vl;omega
   ·have e:pl=[]:=e;subst e;cases hp;exact⟨(HK hk h hN).1,(HK hk h hN).2.1⟩
 ·have hv:fo=.val v:=hv;have hpl:pl=[]:=hpl;subst hv;subst hpl;cases hp;cases hfo with
  |val h=>exact(HK hk h hN).2.2
theorem RD.mono{M N:Nat}(hm:M<=N):∀ {r:Res},RD M r->RD N r
 | .st ⟨.term _ _,_,_,_⟩,h=>⟨⟨h.fo.1,h.fo.2.mono hm⟩,λx hx=>(h.pl x hx).mono hm⟩
 | .st ⟨.val _,_,_,_⟩,h=>⟨VD.mono h.fo hm,λx hx=>(h.pl x hx).mono hm⟩
 | .value _,h=>VD.mono h hm
 | .dry,_| .deep,_| .refd _,_=>trivial
theorem RTy.mono{F:Fs}{kl:Kd}{M N:Nat}(hm:M<=N):∀ {r:Res},RTy F M kl r->RTy F N kl r
 | .st ⟨.term _ _,_,_,_⟩,⟨⟨k,.term h1 h2,hp⟩,hl⟩=>⟨⟨k,.term h1 (h2.mono hm),hp.mono hm⟩,Nat.le_trans hl hm⟩
 | .st ⟨.val _,_,_,_⟩,⟨⟨k,.val h1,hp⟩,hl⟩=>⟨⟨k,.val (h1.mono hm),hp.mono hm⟩,Nat.le_trans hl hm⟩
 | .value _,h=>W.mono hm h
 | .dry,_| .deep,_| .refd _,_=>trivial
end _G
namespace _G
open PySem _L _B
seal PE PT PW PA PS PSs PTs PI _L.PG PGs PO
noncomputable abbrev BR:Stmt:=_B.top 59
noncomputable abbrev UV:List Str:=["_law_script","_law_program_here","_law_main_here","_law_bound","_law_numbers","_law_most","_law_due","_law_state","_law_k","_law_told"]
theorem sc_law:FnScope UV ["_law_script"] (B3 BR):=fS
theorem XO{K:FZ}:kitOne K (.type "tuple") (.type "str")=some false:=by rfl
theorem WB{K:FZ}:kitOne K (.type "str") (.type "str")=some true:=by rfl
structure Bo (F:Fs) (km:Kd) (H:Hp) (N M:Nat) (r:Res) (u w:V):Prop where
 a:ReA H r u
 b:ReA H r w
 ty:RTy F N km r
 d:RD M r
theorem ReA.same{H H':Hp}(m:Same H H'):∀ {r:Res} {v:V},ReA H r v->ReA H' r v
 | .st _,_,h=>StA.mono (A4 m) h
 | .dry,_,⟨p,e,h⟩=>⟨p,e,m _ _ h⟩
 | .deep,_,⟨p,e,h⟩=>⟨p,e,m _ _ h⟩
 | .refd _,_,⟨p,e,h⟩=>⟨p,e,m _ _ h⟩
 | .value _,_,⟨p,u,e,h,g⟩=>⟨p,u,e,m _ _ h,g.same m⟩
theorem RP{H:Hp}{r:Res}{v:V}(h:ReA H r v):∃p x xs,v=.ref p/\H p=some (.tup (x::xs))/\((∃z,x=.str z)\/∃s q ys,r=.st s/\x=.ref q/\H q=some (.tup ys)):=by
 cases r with
 |st s=>
  obtain⟨fo,pl,c,d⟩:=s;obtain⟨p,f,l,rfl,h1,h2,_⟩:=h;have h2:FoA H fo f:=h2;cases h2 with
  |term h _ _=>exact⟨p,_,_,rfl,h1,.inr ⟨_,_,_,rfl,rfl,h⟩⟩
  |val h _=>exact⟨p,_,_,rfl,h1,.inr ⟨_,_,_,rfl,rfl,h⟩⟩
 |dry=>obtain⟨p,rfl,h1⟩:=h;exact⟨p,_,_,rfl,h1,.inl ⟨_,rfl⟩⟩
 |deep=>obtain⟨p,rfl,h1⟩:=h;exact⟨p,_,_,rfl,h1,.inl ⟨_,rfl⟩⟩
 |refd z=>obtain⟨p,rfl,h1⟩:=h;exact⟨p,_,_,rfl,h1,.inl ⟨_,rfl⟩⟩
 |value x=>obtain⟨p,u,rfl,h1,_⟩:=h;exact⟨p,_,_,rfl,h1,.inl ⟨_,rfl⟩⟩
theorem Bo.same{F:Fs}{km:Kd}{H H':Hp}{N M:Nat}{r:Res}{u w:V}(h:Bo F km H N M r u w)(m:Same H H'):Bo F km H' N M r u w:=⟨h.a.same m,h.b.same m,h.ty,h.d⟩
theorem Bo.mono{F:Fs}{km:Kd}{H:Hp}{N M N' M':Nat}{r:Res}{u w:V}(h:Bo F km H N M r u w)(h1:N<=N')(h2:M<=M'):Bo F km H N' M' r u w:=⟨h.a,h.b,h.ty.mono h1,h.d.mono h2⟩
theorem WS{F:Fs}{N:Nat}:∀ {is:List Int} {n:Nat},is.length=n->(∀x∈is, -GR<=x/\x<=GR)->All2 (W1 F N) (is.map Vl.int) (List.replicate n Kd.num)
 | [],0,_,_=> .nil
 |a::r,n+1,hl,h=> .cons (.int (h a (mem_cons_self ..)).1 (h a (mem_cons_self ..)).2) (WS (by simpa using hl) λx hx=>h x (mem_cons_of_mem _ hx))
theorem Bo.sm{F:Fs}{km:Kd}{H:Hp}{N M:Nat}{r:Res}{u w:V}(h:Bo F km H N M r u w)(hM:M<=225)(hN:N<=500):∃a b xs ys,u=.ref a/\w=.ref b/\H a=some (.tup xs)/\H b=some (.tup ys)/\xs.length<=4/\All2 (Ak H (227+1)) xs ys:=by
 obtain⟨a,b,xs,ys,e1,e2,h1,h2,h3,h4⟩:=cKZ (h.d.mono hM) (by decide) (by decide) (λs e=>by
  have ht:=h.ty;rw[e]at ht;have:=ht.len;omega) h.a h.b
 exact⟨a,b,xs,ys,e1,e2,h1,h2,h3,h4⟩
section
variable{P:Program}{w:World}{K:FZ}{mg:Str->Option Value}{base:Heap}{f F7 ZC c2Z ciZ aXZ aVZ:Addr}{fd K4 ZE c1Z chZ aUZ a4Z:FuncData}
inductive spLawW(K:FZ)(vs:List V)(H:Hp)(Q:VK):Prop
 |mk:∀(sc:Addr) (ns:List Int),(vs=[.ref sc])->(ScrAt K H sc ns)->(ns.length<=63)->(∀H',Q (.bl true) H')->spLawW K vs H Q
noncomputable def SI(K:FZ):Sp:=λvs H Q _=>spLawW K vs H Q
theorem ok_law(F:Fun K "law" "law" BR f fd)(B:NoL mg)
  (B8:Cn P w K mg base CX0 1 "_law_cell_at" JG (AR K))
  (Y9:Cn P w K mg base CX0 32 "_law_program" boZ (KC K))
  (KP:Cn P w K mg base CX0 2 "begun" bdZ SE)
  (BK:Cn P w K mg base CX0 6 "onward" LA cEZ)
  (DB:Cn P w K mg base CX0 4 "_law_next" LX cXZ)
  (X5:Cn P w K mg base CX0 230 "_law_same" cbZ (cJZ 227)):
  FnOk P w K mg base CX0 231 f fd ["_law_script"] (SI K):=by
 refine F.ok sc_law (λvs H Q E h=> ?_) (λcdv A outer s H vs Q E hr h=> ?_)
 ·obtain⟨sc,ns,rfl,_⟩:=h;rfl
 obtain⟨sc,ns,rfl,hsc,hn63,q⟩:=h;have nd:=sc_law.nd;have hu:=hr.units0;refine⟨_,(A6 (sS 1 nd (cC Y9 hr (A0 (pv 0) (A0 A3 A5))))
   (A6 (sS 2 nd (ixE K w (U2 (cS (N:=UV) (sc:=B3 BR) (caps:=[]) (ns:=[])) rfl rfl rfl (DZ (K:=K) (pv 1)) (λ_ _ _ _ _=>(U6 (B0 (kEq (K:=K) hu) (ixE K w (pv 0) A3) A7 rfl))) (λ_ _ _ _ _=>(pv 0))) A3))
   (A6 (BS (i:=3) nd rfl (Or.inr rfl) (ixE K w (K1 (A0 (B5 OL A3 A3) (A0 A3 (A0 A3 A5)))) (B5 C3 (cC B8 hr (A0 (pv 0) (A0 A3 A5))) A3)))
   (A6 (N2 (i:=4) nd rfl rfl (cS (N:=UV) (sc:=B3 BR) (caps:=[3,0]) (ns:=["_law_bound","_law_script"])) rfl rfl rfl (O6 rfl B.range_ (A0 (kL K B.len_ (ixE K w (pv 2) A3)) A5)) (λ_ _ _ _ _=>P5) (λ_ _ _ _ _=>(B5 T4 (B5 C3 (cC B8 hr (A0 (pv 2) (A0 (B5 AC A3 (pv 0)) A5))) (pv 1)) A3)))
   (A6 (sS 5 nd (B5 C3 (cC B8 hr (A0 (pv 0) (A0 A3 A5))) A3))
   (A6 (sS 6 nd (A8 (A0 (A8 (A0 A7 (A0 (ixE K w (pv 2) A3) (A0 (F6 (AT (K:=K)) rfl B.tuple_ M6 (A0 (CA (K:=K) rfl B.zip_ rfl B.list_ rfl (A0 (ixE K w (pv 2) A3) (A0 (pv 4) A5))) A5)) A5)))) (A0 (A8 A5) (A0 A3 (A0 A3 A5))))))
   (A6 (sS 7 nd (cC KP hr (A0 (pv 1) (A0 (F6 (LS (K:=K)) rfl B.list_ U4 (A0 (pv 4) A5)) A5))))
   (A6 (B7 (DN (N5 (K:=K) (cC X5 hr (A0 (pv 7) (A0 (pv 6) A5))) (λ_=>rfl))) (A9 (B4 EZ)) B6)
   (A6 (D7 (FI PassesOwn.never rfl (O6 rfl B.range_ (A0 (B5 C3 (B5 C0 (cC B8 hr (A0 (pv 0) (A0 A3 A5))) A3) A3) A5)) (gN 8 nd) (A9 (D7 (B7 (DN (N5 (K:=K) (J7 (CC (K:=K)) rfl B.isinstance_ E1 (A0 (ixE K w (pv 7) A3) (A0 (O1 (v:=.ty "str") rfl B.str_ YY rfl) A5))) (λ_=>rfl))) (A6 (sS 7 nd (cC BK hr (A0 (pv 1) (A0 (pv 7) (A0 (pv 5) A5)))))
   (A9 (sS 6 nd (pv 7)))) B6)))))
   (A6 (D7 (FI PassesOwn.never rfl (O6 rfl B.range_ (A0 A3 A5)) (gN 8 nd) (A6 (B7 (DN (N5 (K:=K) (cC X5 hr (A0 (pv 7) (A0 (pv 6) A5))) (λ_=>rfl))) (A9 (B4 EZ)) B6)
   (A6 (B7 (N5 (K:=K) (J7 (CC (K:=K)) rfl B.isinstance_ E1 (A0 (ixE K w (pv 6) A3) (A0 (O1 (v:=.ty "str") rfl B.str_ YY rfl) A5))) (λ_=>rfl)) (A9 (B4 EZ)) B6)
   (A6 (sS 6 nd (cC DB hr (A0 (pv 1) (A0 (pv 6) (A0 (pv 5) A5)))))
   (A6 (sS 9 nd (cC BK hr (A0 (pv 1) (A0 (pv 7) (A0 (pv 5) A5)))))
   (A6 (sS 7 nd (cC BK hr (A0 (pv 1) (A0 (pv 7) (A0 (pv 5) A5)))))
   (A9 (B7 (DN (N5 (K:=K) (cC X5 hr (A0 (pv 9) (A0 (pv 6) A5))) (λ_=>rfl))) (A9 (B4 EZ)) B6)))))))))
   (A9 (B4 EZ)))))))))))), ?_⟩
 have sc2:∀ {HH:Hp},Same H HH->ScrAt K HH sc ns:=λ{HH} sm=>hsc.imp (λ⟨o,h⟩=>⟨o,sm _ _ h⟩) id;refine⟨_,rfl,sc,ns,16,rfl,hsc,hn63,by decide,by decide,λD Fs' n km gv H1 s1 hpg hdty hD3 hmain hkp hdt=> ?_⟩;obtain⟨hn4,dn,g,hfind,hpl,hbody,hg⟩:=hdty.of _ _ _ hmain;rw[length_replicate]at hn4 hpl;have hF4:∀z ks k,Fs'.lookup z=some (ks,k)->ks.length<=4:=λz ks k h=>(hdty.of z ks k h).1;have hTD:∀d∈D,TD d.body:=λd hd=>by
  obtain⟨h1,g',k',h2⟩:=hdt d hd;exact⟨h1,(czZ hF4 h2).1⟩
 have hpg0:=hpg;obtain⟨pg,gus,rfl,hpgt,hgD⟩:=hpg;refine⟨_,rfl,pg,rfl,⟨gus,SqT.of hpgt⟩,DW (E:=λdi u=>DnA H1 di u) hpgt hgD (by omega) hfind ?_ ?_⟩
 ·rintro x di ys Pv hdn hy hn;obtain⟨pa,pq,pt',rfl,h1,h2,h3⟩:=hdn;exact⟨_,rfl,(ixT h1 rfl (.inl ⟨rfl,_,rfl,F9 (λc=>⟨_,rfl,hy (by have:=of_decide_eq_true c;injection this) _ ⟨pa,pq,pt',rfl,h1,h2,h3⟩⟩) (λc=>hn λe=>c (by rw[e];exact decide_eq_true rfl))⟩))⟩
 rintro x rs ⟨pa,pq,pt,rfl,hpa,hpq,hpt⟩ r1 hr1;have s2:=A1 hr1 (.lst (.ref pa::rs));refine(ixL A2 (show atI (V.ref pa::rs) ((0:Nat):Int)=some (.ref pa)from D5 rfl) ?_);refine⟨_,_,rfl,rfl,⟨by decide,by decide,by decide⟩,C7,λlb hlb=> ?_⟩;have s3:=A1 hlb (.lst [.int ((10:Int)^(40:Int).toNat),.int 7,.int 21]);have s13:=s1.trans (s2.trans s3);obtain⟨bd,hbd,hbd0,hbd1⟩:∃bd:Int,atI [V.int ((10:Int)^(40:Int).toNat),.int 7,.int 21] (E6 ns 5%3)=some (.int bd)/\0<bd/\bd<=GR:=by
  have k1:=Int.emod_nonneg (E6 ns 5) (by decide:(3:Int)≠0);have k2:=Int.emod_lt_of_pos (E6 ns 5) (by decide:(0:Int)<3);have h:E6 ns 5%3=0\/E6 ns 5%3=1\/E6 ns 5%3=2:=by omega
  rcases h with h|h|h<;>rw[h]
  ·exact⟨_,rfl,by decide +kernel,by decide +kernel⟩
  ·exact⟨_,rfl,by decide,by decide⟩
  ·exact⟨_,rfl,by decide,by decide⟩
 refine⟨_,rfl,sc,ns,5,rfl,(sc2 s13).sq,by decide,_,_,rfl,rfl,(by decide:(0:Int)<3),(ixL A2 hbd ?_)⟩;have s23:=s2.trans s3;have hpa3:=s23 _ _ hpa;have hpq3:=s23 _ _ hpq;have hpt3:=hpt.mono (A4 s23);have hpg3:=hpg0.mono (A4 s23);show S9 _ _ _ [some (.ref sc),some (.ref pg),some (.ref pa),some (.int bd),none,none,none,none,none,none] (upd (upd H1 r1 (.lst (.ref pa::rs))) lb (.lst [.int ((10:Int)^(40:Int).toNat),.int 7,.int 21]));generalize upd (upd H1 r1 (.lst (.ref pa::rs))) lb (.lst [.int ((10:Int)^(40:Int).toNat),.int 7,.int 21])=H3 at s13 hpa3 hpq3 hpt3 hpg3⊢;clear hpa hpq hpt hgD hpgt hr1 hlb s1 s2 s3 s23 hbd;have zN:(4:Nat)<=sizeLine:=by decide
 refine⟨_,rfl,(ixT hpa3 rfl ⟨_,_,rfl,.inr ⟨_,SqT.of hpq3,rfl⟩,_,rfl,by rw[length_map];omega,by rw[length_map];omega, ?_⟩)⟩;rw[length_map,hpl];refine P1 (n:=n) (λi ys H'=>H3=H'/\∃is:List Int,ys=is.map V.int/\is.length=i/\∀x∈is, -GR<=x/\x<=GR) ⟨rfl,[],rfl,rfl,λx hx=>nomatch hx⟩ ?_ ?_ ?_
 ·rintro i ys H' hi ⟨_,is,rfl,hl,_⟩;rw[length_map,hl];omega
 ·rintro i ys H' hi ⟨rfl,is,rfl,hl,hb⟩;refine T3 ?_;refine⟨_,rfl,_,rfl,.inl ⟨_,_,rfl,rfl,sc,ns,_,rfl,(sc2 s13).sq,by omega,_,rfl,_,_,rfl,rfl,hbd0,_,_,rfl,rfl,rfl,is++ [E6 ns (6+(0+(i:Int)))%bd - 6],by rw[map_append];rfl,by rw[length_append,hl];rfl,λx hx=> ?_⟩⟩;rcases mem_append.mp hx with hx|hx
  ·exact hb x hx
  ·rw[sZ hx];have k1:=Int.emod_nonneg (E6 ns (6+(0+(i:Int)))) (Int.ne_of_gt hbd0);have k2:=Int.emod_lt_of_pos (E6 ns (6+(0+(i:Int)))) hbd0;have k3:(6:Int)<=GR:=by decide
   omega
 rintro ys H' ⟨rfl,is,rfl,hil,hib⟩ ln hln;have s4:=A1 hln (.lst (is.map V.int));have sa4:=s13.trans s4;have hln4:(upd H3 ln (.lst (is.map V.int))) ln=some (.lst (is.map V.int)):=A2;have hpa4:=s4 _ _ hpa3;have hpq4:=s4 _ _ hpq3;have hpt4:=hpt3.mono (A4 s4);have hpg4:=hpg3.mono (A4 s4);show S9 _ _ _ [some (.ref sc),some (.ref pg),some (.ref pa),some (.int bd),some (.ref ln),none,none,none,none,none] (upd H3 ln (.lst (is.map V.int)));generalize upd H3 ln (.lst (is.map V.int))=H4 at sa4 hln4 hpa4 hpq4 hpt4 hpg4⊢;clear hpa3 hpq3 hpt3 hpg3 s13 s4 hln;obtain⟨xs,hxs⟩:∃xs:List Vl,xs=is.map Vl.int:=⟨_,rfl⟩;have hxl:xs.length=n:=by rw[hxs,length_map,hil]
 have hxv:∀(HH:Hp),All2 (V1 HH) xs (is.map V.int):=λHH=>by
  rw[hxs];clear hxs hxl hib hil hln4;induction is with
  |nil=>exact .nil
  |cons a r ih=>exact .cons .int ih
 have hxd:∀v∈xs,VD 46 v:=λv hv=>by
  rw[hxs]at hv;obtain⟨i,_,rfl⟩:=mem_map.mp hv;exact⟨zero_le _,trivial⟩
 have hpx:dn.pars.length=xs.length:=by rw[hxl,hpl]
 refine⟨_,rfl,sc,ns,4,rfl,(sc2 sa4).sq,by decide,_,_,rfl,rfl,(by decide:(0:Int)<41), ?_⟩;generalize E6 ns 4%41=most;refine⟨_,rfl,(ixT hpa4 rfl ⟨_,rfl,(ixT hpa4 rfl ⟨_,rfl,pq,ln,_,_,rfl,.inl (SqT.of hpq4),.inr (SqL.of hln4),(by rw[length_map,length_map];omega),λr2 H5 ps s5 _ hr2 hps=>⟨r2,_,rfl,.inl ⟨SqL.of hr2,λr3 hr3=>⟨C7,λt1 ht1=>⟨zero_le _,λt2 ht2=>⟨P2,λt3 ht3=> ?_⟩⟩⟩⟩⟩⟩)⟩)⟩;have e3:=A1 hr3 (.tup ps);have e4:=A1 ht1 (.tup [.str "term",pt,.ref r3]);have e5:=A1 ht2 (.tup []);have e6:=A1 ht3 (.tup [.ref t1,.ref t2,.int 0,.int 1]);have e36:=e3.trans (e4.trans (e5.trans e6));have hdue:StA (upd (upd (upd (upd H5 r3 (.tup ps)) t1 (.tup [.str "term",pt,.ref r3])) t2 (.tup [])) t3 (.tup [.ref t1,.ref t2,.int 0,.int 1])) ⟨.term dn.body (env dn.pars xs),[],0,1⟩ (.ref t3):=⟨t3,.ref t1,.ref t2,rfl,A2,.term ((e5.trans e6) _ _ A2) (hpt4.mono (A4 (s5.trans e36))) ⟨r3,ps,rfl,(e4.trans (e5.trans e6)) _ _ A2,(KY (us0:=[]) hpx (hxv H5) hps .nil).mono (A4 e36)⟩,t2,[],rfl,e6 _ _ A2,.nil⟩;have sa6:=sa4.trans (s5.trans e36);have hln6:=(s5.trans e36) _ _ hln4;have hpg6:=hpg4.mono (A4 (s5.trans e36));show S9 _ _ _ [some (.ref sc),some (.ref pg),some (.ref pa),some (.int bd),some (.ref ln),some (.int most),some (.ref t3),none,none,none] (upd (upd (upd (upd H5 r3 (.tup ps)) t1 (.tup [.str "term",pt,.ref r3])) t2 (.tup [])) t3 (.tup [.ref t1,.ref t2,.int 0,.int 1]));generalize upd (upd (upd (upd H5 r3 (.tup ps)) t1 (.tup [.str "term",pt,.ref r3])) t2 (.tup [])) t3 (.tup [.ref t1,.ref t2,.int 0,.int 1])=H6 at hdue sa6 hln6 hpg6⊢;refine⟨_,rfl,_,rfl,_,_,rfl,.inl (SqL.of hln6),λl7 hl7=>⟨D,dn,xs,is.map V.int,.ref pg,l7,rfl,hpg6.mono (A4 (A1 hl7 _)),by omega,hfind,A2,hxv _,hpx,by omega,λu8 H8 s8 hu8=> ?_⟩⟩;have s68:=(A1 hl7 (.lst (is.map V.int))).trans s8;have sa8:=sa6.trans s68;have hpg8:=hpg6.mono (A4 s68);have hB8:Bo Fs' km H8 8 47 (.st ⟨.term dn.body (env dn.pars xs),[],0,1⟩) u8 (.ref t3):=by
  refine⟨hu8,hdue.mono (A4 s68),⟨⟨km,.term hbody ⟨_,W.env (ks:=List.replicate n Kd.num) (g:=[]) .none (by show 0+xs.length<=8;omega) (by rw[length_replicate];exact hpl) (by rw[hxs];exact WS hil hib),λy k' hy=>by rw[append_nil];exact hg y k' hy⟩,.nil⟩,zero_le _⟩,⟨⟨hTD _ (List.mem_of_find?_eq_some hfind),YZ (M:=46) hxd ⟨zero_le _,trivial⟩ (by show 0+xs.length<=47;omega)⟩,λx hx=>nomatch hx⟩⟩
 show S9 _ _ _ [some (.ref sc),some (.ref pg),some (.ref pa),some (.int bd),some (.ref ln),some (.int most),some (.ref t3),some u8,none,none] H8;generalize hw8:V.ref t3=w8 at hB8⊢;obtain⟨a,b,xs8,ys8,e1,e2,h1,h2,h3,h4⟩:=hB8.sm (by omega) (by omega);refine⟨_,rfl,_,rfl,a,b,xs8,ys8,by rw[e1,e2];rfl,h1,h2,h3,h4,λH9 s9=>⟨true,rfl,ifF nZ ?_⟩⟩;have sa9:=sa8.trans s9;have hpg9:=hpg8.mono (A4 s9);have hB9:=hB8.same s9;have g1:=Int.emod_nonneg ((E6 ns 5).fdiv 3) (by decide:(60:Int)≠0);have g2:=Int.emod_lt_of_pos ((E6 ns 5).fdiv 3) (by decide:(0:Int)<60);obtain⟨j,ej,hj⟩:∃j:Nat,(E6 ns 5).fdiv 3%60=(j:Int)/\j<=59:=⟨((E6 ns 5).fdiv 3%60).toNat,by omega,by omega⟩;have step:∀ {H':Hp} {N M:Nat} {s:Sta} {u v:V},Bo Fs' km H' N M (.st s) u v->4<=N->N<=400->47<=M->∃r',Stp D most s r'/\RTy Fs' (N+1) km r'/\RD (M+2) r'/\Okk s/\∀v,s.fo=.val v->s.pile=[]->dv v<=2:=λhB h4 hN hM=>by
  obtain⟨r',hst,hty⟩:=prog hdty hB.ty h4 most;obtain⟨o1,o2⟩:=bHZ hdty (by omega) hkp hB.ty;exact⟨r',hst,hty,cmZ hst hB.d hTD hM,o1,o2⟩
 refine⟨fun σ' H'=>∃r u w k',σ'=[some (.ref sc),some (.ref pg),some (.ref pa),some (.int bd),some (.ref ln),some (.int most),some w,some u,k',none]/\Same H9 H'/\Bo Fs' km H' 68 165 r u w, ?_, ?_⟩
 ·refine⟨_,rfl,sc,ns,5,rfl,(sc2 sa9).sq,by decide,_,_,rfl,rfl,lg (by decide) (by decide),_,_,rfl,rfl,(by decide:(0:Int)<60),_,rfl,by omega,by omega, ?_⟩;rw[ej];refine JZ (n:=j) (λi σ' H'=>∃r u w k',σ'=[some (.ref sc),some (.ref pg),some (.ref pa),some (.int bd),some (.ref ln),some (.int most),some w,some u,k',none]/\Same H9 H'/\Bo Fs' km H' (8+i) (47+2*i) r u w) ⟨_,_,_,_,rfl,Same.refl _,hB9⟩ ?_ ?_
  ·rintro i σ' H' hi ⟨r,u,w',k',rfl,sm,hB⟩;refine BH ?_;obtain⟨p,x,xs',rfl,hp,hx⟩:=RP hB.a;rcases hx with⟨z,rfl⟩|⟨s,q',ys',rfl,rfl,hq'⟩
   ·exact⟨_,rfl,(ixT hp (show atI (V.str z::xs') ((0:Nat):Int)=some (.str z)from D5 rfl) ⟨_,_,_,_,rfl,.str _,WB,_,rfl,ifF nZ ⟨r,_,w',_,rfl,sm,hB.mono (by omega) (by omega)⟩⟩)⟩
   ·obtain⟨r',hst,hty,hrd,o1,o2⟩:=step hB (by omega) (by omega) (by omega);refine⟨_,rfl,(ixT hp (show atI (V.ref q'::xs') ((0:Nat):Int)=some (.ref q')from D5 rfl) ⟨_,_,_,_,rfl,.tup hq',XO,_,rfl,ifT rfl ?_⟩)⟩;exact⟨_,rfl,_,rfl,_,rfl,s,r',D,most,.ref pg,.ref p,rfl,hB.a,hpg9.mono (A4 sm),by omega,o1,hst,λu' H2 s2 hu'=>⟨_,rfl,r',u',u',_,rfl,sm.trans s2,hu',hu',hty.mono (by omega),hrd.mono (by omega)⟩⟩
  ·rintro σ' H' ⟨r,u,w',k',rfl,sm,hB⟩;exact⟨r,u,w',k',rfl,sm,hB.mono (by omega) (by omega)⟩
 rintro _ H10 ⟨r,u,w',k',rfl,s10,hB10⟩;refine⟨λ_ _=>True, ?_,λ_ _ _=>q _⟩;refine⟨30,rfl,by omega,by omega,JZ (n:=30) (λi σ' H'=>∃r u w k' o,σ'=[some (.ref sc),some (.ref pg),some (.ref pa),some (.int bd),some (.ref ln),some (.int most),some w,some u,k',o]/\Same H9 H'/\Bo Fs' km H' (68+i) (165+2*i) r u w) ⟨_,_,_,_,_,rfl,s10,hB10⟩ ?_ (λ_ _ _=>trivial)⟩;rintro i σ' H' hi ⟨r,u,w',k',o,rfl,sm,hB⟩;obtain⟨a1,b1,xs1,ys1,e11,e12,h11,h12,h13,h14⟩:=hB.sm (by omega) (by omega);refine⟨_,rfl,_,rfl,a1,b1,xs1,ys1,by rw[e11,e12];rfl,h11,h12,h13,h14,λH2 s2=>⟨true,rfl,ifF nZ ?_⟩⟩;have hB2:=hB.same s2;obtain⟨p,x,xs',ew,hp,hx⟩:=RP hB2.b;subst ew;rcases hx with⟨z,rfl⟩|⟨s,q',ys',rfl,rfl,hq'⟩
 ·exact⟨_,rfl,(ixT hp (show atI (V.str z::xs') ((0:Nat):Int)=some (.str z)from D5 rfl) ⟨_,_,_,_,rfl,.str _,WB,true,rfl,ifT rfl (q _)⟩)⟩
 obtain⟨r',hst,hty,hrd,o1,o2⟩:=step hB2 (by omega) (by omega) (by omega);refine⟨_,rfl,(ixT hp (show atI (V.ref q'::xs') ((0:Nat):Int)=some (.ref q')from D5 rfl) ⟨_,_,_,_,rfl,.tup hq',XO,false,rfl,ifF nZ ?_⟩)⟩;have sm2:=sm.trans s2;refine⟨_,rfl,_,rfl,_,rfl,s,r',D,most,.ref pg,.ref p,rfl,hB2.b,hpg9.mono (A4 sm2),by omega,o1,o2,hst,λw3 H3 s3 hw3=> ?_⟩;have hBa3:StA H3 s u:=ReA.same (r:=.st s) s3 hB2.a;refine⟨_,rfl,_,rfl,_,rfl,s,r',D,most,.ref pg,u,rfl,hBa3,hpg9.mono (A4 (sm2.trans s3)),by omega,o1,hst,λu4 H4' s4' hu4=> ?_⟩;refine⟨_,rfl,_,rfl,_,rfl,s,r',D,most,.ref pg,u,rfl,ReA.same (r:=.st s) s4' hBa3,hpg9.mono (A4 (sm2.trans (s3.trans s4'))),by omega,o1,hst,λu5 H5' s5' hu5=> ?_⟩;have hBt:Bo Fs' km H5' (68+i+1) (165+2*i+2) r' u4 w3:=⟨hu4.same s5',hw3.same (s4'.trans s5'),hty,hrd⟩;obtain⟨a2,b2,xs2,ys2,e21,e22,h21,h22,h23,h24⟩:=hBt.sm (by omega) (by omega);refine⟨_,rfl,_,rfl,a2,b2,xs2,ys2,by rw[e21,e22];rfl,h21,h22,h23,h24,λH6' s6'=>⟨true,rfl,ifF nZ ⟨r',u5,w3,_,_,rfl,sm2.trans (s3.trans (s4'.trans (s5'.trans s6'))),⟨hu5.same s6',hBt.b.same s6',hty,hrd⟩⟩⟩⟩
end
end _G
namespace PySem.W.Fast
def tw7921477923066400265:=Nat
def tw630172752770526244:=Nat
def tw4796412590905068408:=Nat
def tw3075302476784890073:=Nat
def tw2457752767830290773:=Nat
def tw3518940232609809532:=Nat
def tw6417976586587055426:=Nat
def tw14927475098029528086:=Nat
def tw18092227103514275759:=Nat
def tw2461143809475664083:=Nat
def tw571372206772332188:=Nat
def tw17205778751179199730:=Nat
def tw13685122108690492704:=Nat
def tw13829959238716226151:=Nat
def tw12819192969837359599:=Nat
def tw15639160072694072160:=Nat
def tw14210350478057716131:=Nat
def tw2887742684532580052:=Nat
def tw17354173240758600819:=Nat
def tw897324812180393446:=Nat
def tw810820086097420630:=Nat
def tw11747617059648244215:=Nat
def tw7305615464357296853:=Nat
def tw6743949466687465183:=Nat
def tw4163220902341397496:=Nat
def tw15708737250327182170:=Nat
def tw8702040365564233542:=Nat
def tw14667057574055708964:=Nat
def tw16983080806674056133:=Nat
def tw9078001047648771998:=Nat
def tw2592403024479810053:=Nat
def tw11999433804736743448:=Nat
def tw17743305494351913434:=Nat
def tw330886485074822484:=Nat
def tw5292453342416817858:=Nat
def tw8917934895678738743:=Nat
def tw1834763535707622293:=Nat
def tw16589957642735215476:=Nat
def tw16050841504098302295:=Nat
def tw15751321068873835547:=Nat
def tw10254191726824501643:=Nat
def tw8675661291010674625:=Nat
def tw8206998786402529620:=Nat
def tw3221730727749292317:=Nat
def tw15240593661400907806:=Nat
def tw15871866361835645125:=Nat
def tw14943638829313145882:=Nat
def tw11160897157394629213:=Nat
def tw6918406476376823675:=Nat
def tw2265368460440707002:=Nat
def tw17349664541415176374:=Nat
def tw146198150787369090:=Nat
def tw14889789058503069677:=Nat
def tw11732701412204804930:=Nat
def tw437946170919355354:=Nat
def tw14240469728732606083:=Nat
def tw17275000352691081720:=Nat
def tw9388521032816264390:=Nat
def tw18306957662768156687:=Nat
def tw1533519785297134517:=Nat
def tw11463459804926705029:=Nat
def tw17769127283093123297:=Nat
def tw799054242942650601:=Nat
def tw9994639773865082495:=Nat
def tw4733566588967413305:=Nat
def tw3205191472145207194:=Nat
def tw8180196789347776536:=Nat
def tw3420441075868453182:=Nat
def tw3577598179131567404:=Nat
def tw11863557958124278637:=Nat
def tw8615717033044625989:=Nat
def tw13475185595567843545:=Nat
def tw7402909109405437412:=Nat
def tw11921115107898857869:=Nat
def tw9441893640784028401:=Nat
def tw4920354271483160618:=Nat
def tw216607972284149146:=Nat
def tw4177067011860311993:=Nat
def tw7821735703788396061:=Nat
def tw16775573085840831092:=Nat
def tw15216588526415980066:=Nat
def tw1036915413519814752:=Nat
def tw17225394935386296455:=Nat
def tw12092541936750309504:=Nat
def tw11989965646567109004:=Nat
def tw16536320706201015132:=Nat
def tw13218033398722488602:=Nat
def tw8735059021345688405:=Nat
def tw17664004820875800457:=Nat
def tw9376346792836149365:=Nat
def tw14171076140005727036:=Nat
def tw5865807165573118932:=Nat
def tw15664239069244394306:=Nat
def tw17689264895850746178:=Nat
def tw4140865207379616840:=Nat
def tw9610430354392210825:=Nat
def tw2937478379448208504:=Nat
def tw13655095676340743269:=Nat
def tw18231952930807305667:=Nat
def tw5663981923060877067:=Nat
def tw8376543461244582772:=Nat
def tw845086850624591985:=Nat
def tw12763235966857370794:=Nat
def tw16688504124338108506:=Nat
def tw9064445218472773042:=Nat
def tw17893129297263437936:=Nat
def tw7783052968821484823:=Nat
def tw9033822769563561279:=Nat
def tw2505094531827615627:=Nat
def tw9066126543673426539:=Nat
def tw7087017972524063863:=Nat
def tw14318898760401898158:=Nat
def tw7667531835182357460:=Nat
def tw9285110504592597115:=Nat
def tw798621622017056152:=Nat
def tw1106083518727598974:=Nat
def tw7850678212213101514:=Nat
def tw14685828019252534368:=Nat
def tw17148462846271944831:=Nat
def tw13993218278238506364:=Nat
def tw5602895620113116660:=Nat
def tw5179154975014227275:=Nat
def tw3111216690213914556:=Nat
def tw17505270309727334386:=Nat
def tw747306094364820294:=Nat
def tw9137776570936655124:=Nat
def tw7641193140427850197:=Nat
def tw17399615730620825196:=Nat
def tw8507134620856078810:=Nat
def tw9594668693238316301:=Nat
def tw3313732070275814252:=Nat
def tw145519088009370806:=Nat
def tw3169462062904781348:=Nat
def tw2902392554149776074:=Nat
def tw18374887972006664735:=Nat
def tw2711226286347310300:=Nat
def tw12261750852327019868:=Nat
def tw4308381484814408515:=Nat
def tw16040157352540953262:=Nat
def tw7734880023439131036:=Nat
def tw11796183837743666613:=Nat
def tw6248776490451144637:=Nat
def tw18021797215039998993:=Nat
def tw11655425533092225937:=Nat
def tw10911658555310983959:=Nat
def tw12612582962197800979:=Nat
def tw4668225513575921513:=Nat
def tw2026360615619422761:=Nat
def tw8125409537270942869:=Nat
def tw4804697270026083101:=Nat
def tw3952446982428762235:=Nat
def tw11007630262590647366:=Nat
def tw1198517171327425996:=Nat
def tw10977989097779183380:=Nat
def tw3466856383933028402:=Nat
def tw17781876667722672477:=Nat
def tw815532446778590576:=Nat
def tw12288534219480421967:=Nat
def tw8025879767072466148:=Nat
def tw8017289780053004501:=Nat
def tw13384271150588528081:=Nat
def tw8493676711154102989:=Nat
def tw11199588333720855681:=Nat
def tw14353080305328891189:=Nat
def tw3379724744097284282:=Nat
def tw10795099943837097093:=Nat
def tw1501525649714123427:=Nat
def tw6846991377594713364:=Nat
def tw16148420028418894252:=Nat
def tw8865366797814831380:=Nat
def tw18392776285975842277:=Nat
def tw11992329777492767200:=Nat
def tw1231018220408563060:=Nat
def tw8974486271336273291:=Nat
def tw8933674095318099731:=Nat
def tw9439838155311727493:=Nat
def tw7992007767735460062:=Nat
def tw17496930421825856149:=Nat
def tw7702407815548972605:=Nat
def tw9151664583093087847:=Nat
def tw17081728670394326983:=Nat
def tw17617657491798155337:=Nat
def tw10253001121094983798:=Nat
def tw3387053959953601664:=Nat
def tw16171004615824363053:=Nat
def tw5176328531873030109:=Nat
def tw5718310212737229942:=Nat
def tw5349049535180507241:=Nat
def tw893461782648904592:=Nat
def tw17429779912192159798:=Nat
def tw9461538750017734143:=Nat
def tw9858588754215517087:=Nat
def tw17377449631967925660:=Nat
def tw2638350706186695560:=Nat
def tw9084272238303365154:=Nat
def tw16371984687374714567:=Nat
def tw7740012702951617510:=Nat
def tw11724544001093988622:=Nat
def tw17693764758344369985:=Nat
def tw11003965077569947189:=Nat
def tw2118349675551312597:=Nat
def tw387779028710071519:=Nat
def tw14107766346368265788:=Nat
def tw17943656367694754471:=Nat
def tw15970102163149176264:=Nat
def tw4880218373737683882:=Nat
def tw13706109452121435942:=Nat
def tw15911142750296291210:=Nat
def tw17185915299692731401:=Nat
def tw3842112805350114643:=Nat
def tw4852276802205818892:=Nat
def tw677931140172782233:=Nat
def tw16388018675413674411:=Nat
def tw16097979123443768082:=Nat
def tw8913711938400209383:=Nat
def tw9135155436802335773:=Nat
def tw17978238513935266719:=Nat
def tw17482314644469279369:=Nat
def tw13276865241636598480:=Nat
def tw740270394450073223:=Nat
def tw16248420835708586624:=Nat
def tw3841353809406133337:=Nat
def tw2252255505641416163:=Nat
def tw17379091918975173102:=Nat
def tw8892973430281428882:=Nat
def tw4768240482792273184:=Nat
def tw16766093748352391834:=Nat
def tw9502138987210749757:=Nat
def tw15891550126203826121:=Nat
def tw6147060571053830407:=Nat
def tw7522133005268923961:=Nat
def tw11002994094941286796:=Nat
def tw6505847822404565377:=Nat
def tw8325912360824252302:=Nat
def tw2295457003029564480:=Nat
def tw771336425737999036:=Nat
def tw5201643694682851760:=Nat
def tw4573699587448892529:=Nat
def tw3567220697441336204:=Nat
def tw4636122595655826800:=Nat
def tw8184294198349175254:=Nat
def tw10799584026454315622:=Nat
def tw7807998004387536480:=Nat
def tw3944871982320780890:=Nat
def tw4768596232595888499:=Nat
def tw16666612968562279714:=Nat
def tw17502687156499833361:=Nat
def tw14855695886211087609:=Nat
def tw5522011204180067469:=Nat
def tw15047536164391118447:=Nat
def tw11496562047496618550:=Nat
def tw3449730848698608115:=Nat
def tw8359252985372283718:=Nat
def tw6772588040806727470:=Nat
def tw7958334813277839600:=Nat
def tw13510295562221132504:=Nat
def tw16095236991619836078:=Nat
def tw10181339109747269326:=Nat
def tw4610741807464940525:=Nat
def tw4971343205250023953:=Nat
def tw7160813323189852675:=Nat
def tw1628076695539637663:=Nat
def tw15667126054949815621:=Nat
def tw9867358229046014996:=Nat
def tw14935912895734059577:=Nat
def tw18202135073879593957:=Nat
def tw5936191921114284871:=Nat
def tw4345847305986122993:=Nat
def tw11477311452394346393:=Nat
def tw9192839520777642465:=Nat
def tw3010785648382462093:=Nat
def tw18181915615041895904:=Nat
def tw3828358988978073506:=Nat
def tw4827499133667459572:=Nat
def tw14077418401527005519:=Nat
def tw11122265045670135377:=Nat
def tw13503606899289487274:=Nat
def tw2784531319675976869:=Nat
def tw14622907109187903316:=Nat
def tw8483947290020803288:=Nat
def tw3125574638856259862:=Nat
def tw4566543103280533091:=Nat
def tw1810756333510330099:=Nat
def tw6650217895267547661:=Nat
def tw3989744721652012762:=Nat
def tw3723130320252088004:=Nat
def tw4559718675058095674:=Nat
def tw12410444047834140805:=Nat
def tw14471550661691382438:=Nat
def tw15556034948508708170:=Nat
def tw18386917138428372596:=Nat
def tw12133463050264542077:=Nat
def tw937786111913416861:=Nat
def tw14901989510846443556:=Nat
def tw17871674611261315071:=Nat
def tw754383790406523468:=Nat
def tw14259489995229681581:=Nat
def tw14610738264449942367:=Nat
def tw17121625097814696067:=Nat
def tw5433788687890127655:=Nat
def tw79723913581895343:=Nat
end PySem.W.Fast
namespace _G
open PySem _L _B
theorem bGZ{K:FZ}{H:Hp}{a:Addr}{ns:List Int}(hO:ZX H)(h:SqL K H a (ns.map V.int)):ScrAt K H a ns:=by
 rcases h with(h|⟨o,h⟩)|h
 ·rcases hO a with e|⟨o,xs,e⟩<;>rw[e]at h<;>cases h
 ·exact .inl ⟨o,h⟩
 ·exact .inr h
/-- a def of the top,as it lies -/
inductive DefAt (K:FZ) (x:Str) (st:Stmt) (f:Addr) (fd:FuncData):Prop
 |mk (oc kV dc pm cd ct:Value) (od an:Option Addr) (sl:Array (Option Value)):fd=fnOf x x (K6 st) (K2 st) (B3 st) .none kV dc pm an cd ct->PySem.W.nsIn K mainGlobals x=some (some (.ref f))->K.lookup f=some ⟨oc,od,.func (fnOf x x (K6 st) (K2 st) (B3 st) .none kV dc pm an cd ct),sl⟩->codeIn K cd x=true->PySem.W.keepIn K (.ref f)=true->DefAt K x st f fd
section
variable{K:FZ}{x:Str}{st:Stmt}{f:Addr}{fd:FuncData}
theorem DefAt.ns(h:DefAt K x st f fd):PySem.W.nsIn K mainGlobals x=some (some (.ref f)):=by
 obtain⟨_,_,_,_,_,_,_,_,_,_,a,_⟩:=h;exact a
theorem DefAt.kp(h:DefAt K x st f fd):kZ K (.ref f)=true:=by
 obtain⟨_,_,_,_,_,_,_,_,_,_,_,_,_,a⟩:=h;exact a
theorem DefAt.fn(h:DefAt K x st f fd):Fun K x x st f fd:=by
 obtain⟨_,_,_,_,_,_,_,_,_,rfl,_,l,c,k⟩:=h;exact YA l c k
end
theorem lk0{P:List Value->Prop}(h:P []):∀us:List Value,us.length=0->P us
 | [],_=>h
theorem lks{n:Nat}{P:List Value->Prop}(h:∀(a:Value) (us:List Value),us.length=n->P (a::us)):∀us:List Value,us.length=n+1->P us
 |a::us,e=>h a us (Nat.succ.inj e)
theorem bn1{K:FZ}{x qual:Str}{st:Stmt}{f:Addr}{fd:FuncData}{ps:List Str}(F:Fun K x qual st f fd)(l:ps.length=1)(h:∀(kV doc pm:Value) (an:Option Addr) (cdv ct a0:Value),bindArgs (fnOf x qual (K6 st) (K2 st) (B3 st) .none kV doc pm an cdv ct) ⟨[a0],[]⟩=pure (ps.zip [a0])):Binds K fd ps []:=
 F.binds λkV doc pm an cdv ct us hl=>(lks (P:=λus=>bindArgs _ ⟨us,[]⟩=pure (ps.zip us)) λa0=>lk0 (h kV doc pm an cdv ct a0)) us (hl.trans l)
theorem bn2{K:FZ}{x qual:Str}{st:Stmt}{f:Addr}{fd:FuncData}{ps:List Str}(F:Fun K x qual st f fd)(l:ps.length=2)(h:∀(kV doc pm:Value) (an:Option Addr) (cdv ct a0 a1:Value),bindArgs (fnOf x qual (K6 st) (K2 st) (B3 st) .none kV doc pm an cdv ct) ⟨[a0,a1],[]⟩=pure (ps.zip [a0,a1])):Binds K fd ps []:=
 F.binds λkV doc pm an cdv ct us hl=>(lks (P:=λus=>bindArgs _ ⟨us,[]⟩=pure (ps.zip us)) λa0=>lks λa1=>lk0 (h kV doc pm an cdv ct a0 a1)) us (hl.trans l)
theorem bn3{K:FZ}{x qual:Str}{st:Stmt}{f:Addr}{fd:FuncData}{ps:List Str}(F:Fun K x qual st f fd)(l:ps.length=3)(h:∀(kV doc pm:Value) (an:Option Addr) (cdv ct a0 a1 a2:Value),bindArgs (fnOf x qual (K6 st) (K2 st) (B3 st) .none kV doc pm an cdv ct) ⟨[a0,a1,a2],[]⟩=pure (ps.zip [a0,a1,a2])):Binds K fd ps []:=
 F.binds λkV doc pm an cdv ct us hl=>(lks (P:=λus=>bindArgs _ ⟨us,[]⟩=pure (ps.zip us)) λa0=>lks λa1=>lks λa2=>lk0 (h kV doc pm an cdv ct a0 a1 a2)) us (hl.trans l)
theorem bn4{K:FZ}{x qual:Str}{st:Stmt}{f:Addr}{fd:FuncData}{ps:List Str}(F:Fun K x qual st f fd)(l:ps.length=4)(h:∀(kV doc pm:Value) (an:Option Addr) (cdv ct a0 a1 a2 a3:Value),bindArgs (fnOf x qual (K6 st) (K2 st) (B3 st) .none kV doc pm an cdv ct) ⟨[a0,a1,a2,a3],[]⟩=pure (ps.zip [a0,a1,a2,a3])):Binds K fd ps []:=
 F.binds λkV doc pm an cdv ct us hl=>(lks (P:=λus=>bindArgs _ ⟨us,[]⟩=pure (ps.zip us)) λa0=>lks λa1=>lks λa2=>lks λa3=>lk0 (h kV doc pm an cdv ct a0 a1 a2 a3)) us (hl.trans l)
theorem bn5{K:FZ}{x qual:Str}{st:Stmt}{f:Addr}{fd:FuncData}{ps:List Str}(F:Fun K x qual st f fd)(l:ps.length=5)(h:∀(kV doc pm:Value) (an:Option Addr) (cdv ct a0 a1 a2 a3 a4:Value),bindArgs (fnOf x qual (K6 st) (K2 st) (B3 st) .none kV doc pm an cdv ct) ⟨[a0,a1,a2,a3,a4],[]⟩=pure (ps.zip [a0,a1,a2,a3,a4])):Binds K fd ps []:=
 F.binds λkV doc pm an cdv ct us hl=>(lks (P:=λus=>bindArgs _ ⟨us,[]⟩=pure (ps.zip us)) λa0=>lks λa1=>lks λa2=>lks λa3=>lks λa4=>lk0 (h kV doc pm an cdv ct a0 a1 a2 a3 a4)) us (hl.trans l)
theorem bn6{K:FZ}{x qual:Str}{st:Stmt}{f:Addr}{fd:FuncData}{ps:List Str}(F:Fun K x qual st f fd)(l:ps.length=6)(h:∀(kV doc pm:Value) (an:Option Addr) (cdv ct a0 a1 a2 a3 a4 a5:Value),bindArgs (fnOf x qual (K6 st) (K2 st) (B3 st) .none kV doc pm an cdv ct) ⟨[a0,a1,a2,a3,a4,a5],[]⟩=pure (ps.zip [a0,a1,a2,a3,a4,a5])):Binds K fd ps []:=
 F.binds λkV doc pm an cdv ct us hl=>(lks (P:=λus=>bindArgs _ ⟨us,[]⟩=pure (ps.zip us)) λa0=>lks λa1=>lks λa2=>lks λa3=>lks λa4=>lks λa5=>lk0 (h kV doc pm an cdv ct a0 a1 a2 a3 a4 a5)) us (hl.trans l)
theorem DefAt.c1{P:Program}{w:World}{K:FZ}{mg:Str->Option Value}{base h:Heap}{CX:CXT}{k:Nat}{x:Str}{st:Stmt}{f:Addr}{fd:FuncData}{ps:List Str}{sp:Sp}(d:DefAt K x st f fd)(X:K.In h)(G:h.Ns mainGlobals mg)(o:FnOk P w K mg base CX k f fd ps sp)(l:ps.length=1:=by rfl)(hb:∀(kV doc pm:Value) (an:Option Addr) (cdv ct a0:Value),bindArgs (fnOf x x (K6 st) (K2 st) (B3 st) .none kV doc pm an cdv ct) ⟨[a0],[]⟩=pure (ps.zip [a0]):=by intros;rfl):_L.Cn P w K mg base CX k x ps sp:=⟨_,_,o,bn1 d.fn l hb,d.kp,mg_of X G d.ns⟩
theorem DefAt.c2{P:Program}{w:World}{K:FZ}{mg:Str->Option Value}{base h:Heap}{CX:CXT}{k:Nat}{x:Str}{st:Stmt}{f:Addr}{fd:FuncData}{ps:List Str}{sp:Sp}(d:DefAt K x st f fd)(X:K.In h)(G:h.Ns mainGlobals mg)(o:FnOk P w K mg base CX k f fd ps sp)(l:ps.length=2:=by rfl)(hb:∀(kV doc pm:Value) (an:Option Addr) (cdv ct a0 a1:Value),bindArgs (fnOf x x (K6 st) (K2 st) (B3 st) .none kV doc pm an cdv ct) ⟨[a0,a1],[]⟩=pure (ps.zip [a0,a1]):=by intros;rfl):_L.Cn P w K mg base CX k x ps sp:=⟨_,_,o,bn2 d.fn l hb,d.kp,mg_of X G d.ns⟩
theorem DefAt.c3{P:Program}{w:World}{K:FZ}{mg:Str->Option Value}{base h:Heap}{CX:CXT}{k:Nat}{x:Str}{st:Stmt}{f:Addr}{fd:FuncData}{ps:List Str}{sp:Sp}(d:DefAt K x st f fd)(X:K.In h)(G:h.Ns mainGlobals mg)(o:FnOk P w K mg base CX k f fd ps sp)(l:ps.length=3:=by rfl)(hb:∀(kV doc pm:Value) (an:Option Addr) (cdv ct a0 a1 a2:Value),bindArgs (fnOf x x (K6 st) (K2 st) (B3 st) .none kV doc pm an cdv ct) ⟨[a0,a1,a2],[]⟩=pure (ps.zip [a0,a1,a2]):=by intros;rfl):_L.Cn P w K mg base CX k x ps sp:=⟨_,_,o,bn3 d.fn l hb,d.kp,mg_of X G d.ns⟩
theorem DefAt.c4{P:Program}{w:World}{K:FZ}{mg:Str->Option Value}{base h:Heap}{CX:CXT}{k:Nat}{x:Str}{st:Stmt}{f:Addr}{fd:FuncData}{ps:List Str}{sp:Sp}(d:DefAt K x st f fd)(X:K.In h)(G:h.Ns mainGlobals mg)(o:FnOk P w K mg base CX k f fd ps sp)(l:ps.length=4:=by rfl)(hb:∀(kV doc pm:Value) (an:Option Addr) (cdv ct a0 a1 a2 a3:Value),bindArgs (fnOf x x (K6 st) (K2 st) (B3 st) .none kV doc pm an cdv ct) ⟨[a0,a1,a2,a3],[]⟩=pure (ps.zip [a0,a1,a2,a3]):=by intros;rfl):_L.Cn P w K mg base CX k x ps sp:=⟨_,_,o,bn4 d.fn l hb,d.kp,mg_of X G d.ns⟩
theorem DefAt.c5{P:Program}{w:World}{K:FZ}{mg:Str->Option Value}{base h:Heap}{CX:CXT}{k:Nat}{x:Str}{st:Stmt}{f:Addr}{fd:FuncData}{ps:List Str}{sp:Sp}(d:DefAt K x st f fd)(X:K.In h)(G:h.Ns mainGlobals mg)(o:FnOk P w K mg base CX k f fd ps sp)(l:ps.length=5:=by rfl)(hb:∀(kV doc pm:Value) (an:Option Addr) (cdv ct a0 a1 a2 a3 a4:Value),bindArgs (fnOf x x (K6 st) (K2 st) (B3 st) .none kV doc pm an cdv ct) ⟨[a0,a1,a2,a3,a4],[]⟩=pure (ps.zip [a0,a1,a2,a3,a4]):=by intros;rfl):_L.Cn P w K mg base CX k x ps sp:=⟨_,_,o,bn5 d.fn l hb,d.kp,mg_of X G d.ns⟩
theorem DefAt.c6{P:Program}{w:World}{K:FZ}{mg:Str->Option Value}{base h:Heap}{CX:CXT}{k:Nat}{x:Str}{st:Stmt}{f:Addr}{fd:FuncData}{ps:List Str}{sp:Sp}(d:DefAt K x st f fd)(X:K.In h)(G:h.Ns mainGlobals mg)(o:FnOk P w K mg base CX k f fd ps sp)(l:ps.length=6:=by rfl)(hb:∀(kV doc pm:Value) (an:Option Addr) (cdv ct a0 a1 a2 a3 a4 a5:Value),bindArgs (fnOf x x (K6 st) (K2 st) (B3 st) .none kV doc pm an cdv ct) ⟨[a0,a1,a2,a3,a4,a5],[]⟩=pure (ps.zip [a0,a1,a2,a3,a4,a5]):=by intros;rfl):_L.Cn P w K mg base CX k x ps sp:=⟨_,_,o,bn6 d.fn l hb,d.kp,mg_of X G d.ns⟩
theorem all_mk{l:PySem.W.OpenLaw}{w:World}{K:PySem.W.Frag}{h:Heap}{mg:Str->Option Value}{fa:Addr}(X:K.In h)(G:h.Ns mainGlobals mg)(hfa:mg "law"=some (.ref fa))
  {f0 f1 f2 f3 f4 f5 f6 f7 f8 f9 f10 f11 f12 f13 f14 f15 f16 f17 f18 f19 f20 f21 f22 f23 f24 f25 f26 f27 f28 f29 f30 f31 f32 f33 f34 f35 f36 f37 f38 f39 f40 f41 f42 f43 f44 f45 f46 f47 f48 f49 f50 f51:Addr}{od51 an51:Option Addr}{sl51:Array (Option Value)}{oc51 kV51 dc51 pm51 cd51 ct51:Value}
  {e0 e1 e2 e3 e4 e5 e6 e7 e8 e9 e10 e11 e12 e13 e14 e15 e16 e17 e18 e19 e20 e21 e22 e23 e24 e25 e26 e27 e28 e29 e30 e31 e32 e33 e34 e35 e36 e37 e38 e39 e40 e41 e42 e43 e44 e45 e46 e47 e48 e49 e50:FuncData}
  {t_GREATEST t_DEEPEST:Tok}
  {pf_PARTS_FROM:Addr}{es_PARTS_FROM:Array DictEntry}{nes_PARTS_FROM:Nat}
  (d0:DefAt K "two_told" _N.s_two_told f0 e0)
  (d1:DefAt K "quotient_told" _N.s_quotient_told f1 e1)
  (d2:DefAt K "outcome" _N.s_outcome f2 e2)
  (d3:DefAt K "bounded" _N.s_bounded f3 e3)
  (d4:DefAt K "parts_of" DV f4 e4)
  (d5:DefAt K "built_up" _B.s_built_up f5 e5)
  (d6:DefAt K "begun" LM f6 e6)
  (d7:DefAt K "onward" IF f7 e7)
  (d8:DefAt K "function_called" O7 f8 e8)
  (d9:DefAt K "bound_to" DJ f9 e9)
  (d10:DefAt K "onward_from_term" Q9 f10 e10)
  (d11:DefAt K "value_at_once" W6 f11 e11)
  (d12:DefAt K "value_bound" U3 f12 e12)
  (d13:DefAt K "waiting_of" AL f13 e13)
  (d14:DefAt K "onward_from_value" P8 f14 e14)
  (d15:DefAt K "told_at_once" X8 f15 e15)
  (d16:DefAt K "one_told" EC f16 e16)
  (d17:DefAt K "onward_to_term" T5 f17 e17)
  (d18:DefAt K "pushed" IQ f18 e18)
  (d19:DefAt K "into_function" W5 f19 e19)
  (d20:DefAt K "into_fn" FV f20 e20)
  (d21:DefAt K "into_body" BX f21 e21)
  (d22:DefAt K "plain_value" Z8 f22 e22)
  (d23:DefAt K "items_in" DQ f23 e23)
  (d24:DefAt K "with_items" AO f24 e24)
  (d25:DefAt K "is_list" FO f25 e25)
  (d26:DefAt K "_law_cell_at" Z4 f26 e26)
  (d27:DefAt K "_law_name" AX f27 e27)
  (d28:DefAt K "_law_names" W0 f28 e28)
  (d29:DefAt K "_law_cell" DX f29 e29)
  (d30:DefAt K "_law_with" DY f30 e30)
  (d31:DefAt K "_law_kind" DO f31 e31)
  (d32:DefAt K "_law_leaf" T6 f32 e32)
  (d33:DefAt K "_law_some" X7 f33 e33)
  (d34:DefAt K "_law_good" AM f34 e34)
  (d35:DefAt K "_law_taker" Y5 f35 e35)
  (d36:DefAt K "_law_common" S8 f36 e36)
  (d37:DefAt K "_law_own" AG f37 e37)
  (d38:DefAt K "_law_head" AU f38 e38)
  (d39:DefAt K "_law_down" AK f39 e39)
  (d40:DefAt K "_law_main" DK f40 e40)
  (d41:DefAt K "_law_body" DL f41 e41)
  (d42:DefAt K "_law_program" U5 f42 e42)
  (d43:DefAt K "_law_plain" W2 f43 e43)
  (d44:DefAt K "_law_into" DS f44 e44)
  (d45:DefAt K "_law_of_term" Q1 f45 e45)
  (d46:DefAt K "_law_outcome" Z6 f46 e46)
  (d47:DefAt K "_law_of_value" S6 f47 e47)
  (d48:DefAt K "_law_next" EB f48 e48)
  (d49:DefAt K "_law_alike" V6 f49 e49)
  (d50:DefAt K "_law_same" AW f50 e50)
  (a51:PySem.W.nsIn K mainGlobals "law"=some (some (.ref f51)))(l51:K.lookup f51=some ⟨oc51,od51,.func (PySem.W.fnOf "law" "law" (K6 BR) (K2 BR) (B3 BR) .none kV51 dc51 pm51 an51 cd51 ct51),sl51⟩)(c51:PySem.W.codeIn K cd51 "law"=true)(k51:PySem.W.keepIn K (.ref f51)=true)
  (e_GREATEST:PySem.W.nsIn K mainGlobals "GREATEST"=some (some (.int 10000000000000000000000000000000000000000 t_GREATEST)))
  (e_DEEPEST:PySem.W.nsIn K mainGlobals "DEEPEST"=some (some (.int 60 t_DEEPEST)))
  (aD_PARTS_FROM:PySem.W.nsIn K mainGlobals "PARTS_FROM"=some (some (.ref pf_PARTS_FROM)))(lD_PARTS_FROM:K.lookup pf_PARTS_FROM=some ⟨.type "dict",none,.dict es_PARTS_FROM nes_PARTS_FROM, #[]⟩)(kD_PARTS_FROM:PySem.W.KeysLit w.params es_PARTS_FROM.toList)(pD_PARTS_FROM:Paired (λ(p:Str×V) (e:DictEntry)=>(∃t,e.key=.str p.1 t)/\RelV p.2 e.val) _G.PF es_PARTS_FROM.toList)(oD_PARTS_FROM:(pf_PARTS_FROM==sysModules)=false)
  (z_len:PySem.W.nsIn K mainGlobals "len"=some none)
  (z_list:PySem.W.nsIn K mainGlobals "list"=some none)
  (z_reversed:PySem.W.nsIn K mainGlobals "reversed"=some none)
  (z_range:PySem.W.nsIn K mainGlobals "range"=some none)
  (z_zip:PySem.W.nsIn K mainGlobals "zip"=some none)
  (z_isinstance:PySem.W.nsIn K mainGlobals "isinstance"=some none)
  (z_str:PySem.W.nsIn K mainGlobals "str"=some none)
  (z_tuple:PySem.W.nsIn K mainGlobals "tuple"=some none)
  (z_sum:PySem.W.nsIn K mainGlobals "sum"=some none)
  (z_max:PySem.W.nsIn K mainGlobals "max"=some none)
  (z_min:PySem.W.nsIn K mainGlobals "min"=some none)
  (z_int:PySem.W.nsIn K mainGlobals "int"=some none)
  (z_bool:PySem.W.nsIn K mainGlobals "bool"=some none)
  (z_enumerate:PySem.W.nsIn K mainGlobals "enumerate"=some none)
  (z_all:PySem.W.nsIn K mainGlobals "all"=some none)
  (z_dict:PySem.W.nsIn K mainGlobals "dict"=some none)
  (z_sorted:PySem.W.nsIn K mainGlobals "sorted"=some none)
  (z_set:PySem.W.nsIn K mainGlobals "set"=some none)
  (z_abs:PySem.W.nsIn K mainGlobals "abs"=some none):
  ∃fd:FuncData,(∀(s:Shared) (v:Value),BindsTo s fd ⟨[v],[]⟩ [("_law_script",v)])/\∀base:Heap,K.In base->base.Ns mainGlobals mg->FnOk l.prog w K mg base CX0 231 fa fd ["_law_script"] (SI K):=by
 have e:=hfa.symm.trans (PySem.W.mg_of X G a51);cases e;have B:_B.NoG mg:=⟨PySem.W.mg_none_of X G z_len,PySem.W.mg_none_of X G z_list,PySem.W.mg_none_of X G z_reversed,PySem.W.mg_none_of X G z_range,PySem.W.mg_none_of X G z_zip,PySem.W.mg_none_of X G z_isinstance,PySem.W.mg_none_of X G z_str,PySem.W.mg_none_of X G z_tuple,PySem.W.mg_none_of X G z_sum,PySem.W.mg_none_of X G z_max,PySem.W.mg_none_of X G z_min,PySem.W.mg_none_of X G z_int,PySem.W.mg_none_of X G z_bool,PySem.W.mg_none_of X G z_enumerate,PySem.W.mg_none_of X G z_all⟩;have BW:_G.NoL mg:=⟨PySem.W.mg_none_of X G z_len,PySem.W.mg_none_of X G z_int,PySem.W.mg_none_of X G z_range,PySem.W.mg_none_of X G z_dict,PySem.W.mg_none_of X G z_sorted,PySem.W.mg_none_of X G z_tuple,PySem.W.mg_none_of X G z_list,PySem.W.mg_none_of X G z_zip,PySem.W.mg_none_of X G z_set,PySem.W.mg_none_of X G z_isinstance,PySem.W.mg_none_of X G z_bool,PySem.W.mg_none_of X G z_all,PySem.W.mg_none_of X G z_abs,PySem.W.mg_none_of X G z_str⟩;have BM:_N.NoG mg:=⟨PySem.W.mg_none_of X G z_len,PySem.W.mg_none_of X G z_min,PySem.W.mg_none_of X G z_abs,PySem.W.mg_none_of X G z_isinstance,PySem.W.mg_none_of X G z_tuple,PySem.W.mg_none_of X G z_int,PySem.W.mg_none_of X G z_bool⟩;have m_GREATEST:=PySem.W.mg_of X G e_GREATEST;have m_DEEPEST:=PySem.W.mg_of X G e_DEEPEST;have TD_PARTS_FROM:TopD w K pf_PARTS_FROM _G.PF:=⟨⟨es_PARTS_FROM,nes_PARTS_FROM,lD_PARTS_FROM,kD_PARTS_FROM,pD_PARTS_FROM⟩,oD_PARTS_FROM⟩;have m_PARTS_FROM:=PySem.W.mg_of X G aD_PARTS_FROM;have F26:=d26.fn;have b26:=bn2 (ps:=["_law_script","_law_k"]) F26 rfl λ_ _ _ _ _ _ _ _=>rfl;have m26:=PySem.W.mg_of X G d26.ns;have k26:=d26.kp;have F28:=d28.fn;have b28:=bn1 (ps:=["_law_shift"]) F28 rfl λ_ _ _ _ _ _ _=>rfl;have m28:=PySem.W.mg_of X G d28.ns;have k28:=d28.kp;have F29:=d29.fn;have b29:=bn2 (ps:=["_law_cells","_law_spot"]) F29 rfl λ_ _ _ _ _ _ _ _=>rfl;have m29:=PySem.W.mg_of X G d29.ns;have k29:=d29.kp;have F30:=d30.fn;have b30:=bn3 (ps:=["_law_names_here","_law_name_here","_law_kind_here"]) F30 rfl λ_ _ _ _ _ _ _ _ _=>rfl;have m30:=PySem.W.mg_of X G d30.ns;have k30:=d30.kp;have F31:=d31.fn;have b31:=bn1 (ps:=["_law_cell_here"]) F31 rfl λ_ _ _ _ _ _ _=>rfl;have m31:=PySem.W.mg_of X G d31.ns;have k31:=d31.kp;have F32:=d32.fn;have b32:=bn4 (ps:=["_law_cells","_law_spot","_law_kind_here","_law_names_here"]) F32 rfl λ_ _ _ _ _ _ _ _ _ _=>rfl;have m32:=PySem.W.mg_of X G d32.ns;have k32:=d32.kp;have F33:=d33.fn;have b33:=bn6 (ps:=["_law_cells","_law_spot","_law_kinds","_law_names_here","_law_funs","_law_depth"]) F33 rfl λ_ _ _ _ _ _ _ _ _ _ _ _=>rfl;have m33:=PySem.W.mg_of X G d33.ns;have k33:=d33.kp;have F34:=d34.fn;have b34:=bn6 (ps:=["_law_cells","_law_spot","_law_kind_here","_law_names_here","_law_funs","_law_depth"]) F34 rfl λ_ _ _ _ _ _ _ _ _ _ _ _=>rfl;have m34:=PySem.W.mg_of X G d34.ns;have k34:=d34.kp;have F35:=d35.fn;have b35:=bn4 (ps:=["_law_cell_here","_law_names_here","_law_own_here","_law_other"]) F35 rfl λ_ _ _ _ _ _ _ _ _ _=>rfl;have m35:=PySem.W.mg_of X G d35.ns;have k35:=d35.kp;have F36:=d36.fn;have b36:=bn6 (ps:=["_law_cells","_law_spot","_law_kind_here","_law_names_here","_law_funs","_law_depth"]) F36 rfl λ_ _ _ _ _ _ _ _ _ _ _ _=>rfl;have m36:=PySem.W.mg_of X G d36.ns;have k36:=d36.kp;have F37:=d37.fn;have b37:=bn6 (ps:=["_law_cells","_law_spot","_law_kind_here","_law_names_here","_law_funs","_law_depth"]) F37 rfl λ_ _ _ _ _ _ _ _ _ _ _ _=>rfl;have m37:=PySem.W.mg_of X G d37.ns;have k37:=d37.kp;have F43:=d43.fn;have b43:=bn1 (ps:=["_law_value"]) F43 rfl λ_ _ _ _ _ _ _=>rfl;have m43:=PySem.W.mg_of X G d43.ns;have k43:=d43.kp;have F49:=d49.fn;have b49:=bn3 (ps:=["_law_one","_law_other","_law_left"]) F49 rfl λ_ _ _ _ _ _ _ _ _=>rfl;have m49:=PySem.W.mg_of X G d49.ns;have k49:=d49.kp;have F51:=YA (st:=BR) l51 c51 k51;have b51:=bn1 (ps:=["_law_script"]) F51 rfl λ_ _ _ _ _ _ _=>rfl;have m51:=PySem.W.mg_of X G a51;refine⟨PySem.W.fnOf "law" "law" (K6 BR) (K2 BR) (B3 BR) .none kV51 dc51 pm51 an51 cd51 ct51,λs v=> .of_eq rfl,λbase _ _=> ?_⟩;have W3:=d1.c2 X G (_N.ok_quotient_told (P:=l.prog) (w:=w) (mg:=mg) (base:=base) d1.fn);have FD:=d2.c3 X G (_N.ok_outcome (P:=l.prog) (w:=w) (mg:=mg) (base:=base) d2.fn);have FC:=d3.c1 X G (_N.ok_bounded (P:=l.prog) (w:=w) (mg:=mg) (base:=base) d3.fn BM m_GREATEST);have DE:=d0.c3 X G (_N.ok_two_told (P:=l.prog) (w:=w) (mg:=mg) (base:=base) d0.fn W3 FD FC);have DI:=d4.c1 X G (_G.ok_parts_of (P:=l.prog) (w:=w) (mg:=mg) (base:=base) d4.fn B TD_PARTS_FROM m_PARTS_FROM);have DC:=d5.c3 X G (_B.ok_built_up (P:=l.prog) (w:=w) (mg:=mg) (base:=base) d5.fn B);have R4:=d21.c4 X G (_G.ok_into_body (m_DEEPEST:=m_DEEPEST) (P:=l.prog) (w:=w) (mg:=mg) (base:=base) d21.fn);have T0:=d9.c2 X G (_G.ok_bound_to (P:=l.prog) (w:=w) (mg:=mg) (base:=base) d9.fn B);have K5:=d8.c2 X G (_G.ok_function_called (P:=l.prog) (w:=w) (mg:=mg) (base:=base) d8.fn);have M8:=d19.c5 X G (_G.ok_into_function (P:=l.prog) (w:=w) (mg:=mg) (base:=base) d19.fn K5 T0 R4);have FB:=d20.c4 X G (_G.ok_into_fn (P:=l.prog) (w:=w) (mg:=mg) (base:=base) d20.fn R4);have Y8:=d12.c2 X G (_G.ok_value_bound (P:=l.prog) (w:=w) (mg:=mg) (base:=base) d12.fn);have W4:=d11.c2 X G (_G.ok_value_at_once (P:=l.prog) (w:=w) (mg:=mg) (base:=base) d11.fn Y8);have AI:=d13.c2 X G (_G.ok_waiting_of (P:=l.prog) (w:=w) (mg:=mg) (base:=base) d13.fn);have Q4:=d10.c3 X G (_G.ok_onward_from_term (P:=l.prog) (w:=w) (mg:=mg) (base:=base) d10.fn B W4 DI AI M8);have BI:=d18.c3 X G (_G.ok_pushed (P:=l.prog) (w:=w) (mg:=mg) (base:=base) d18.fn);have CW:=d16.c2 X G (_G.ok_one_told (P:=l.prog) (w:=w) (mg:=mg) (base:=base) d16.fn B);have X4:=d15.c2 X G (_G.ok_told_at_once (P:=l.prog) (w:=w) (mg:=mg) (base:=base) d15.fn DE CW);have T2:=d17.c3 X G (_G.ok_onward_to_term (P:=l.prog) (w:=w) (mg:=mg) (base:=base) d17.fn BI);have X0:=d25.c1 X G (_G.ok_is_list (P:=l.prog) (w:=w) (mg:=mg) (base:=base) d25.fn B);have X3:=d23.c1 X G (_G.ok_items_in (P:=l.prog) (w:=w) (mg:=mg) (base:=base) d23.fn B X0);have S5:=d24.c2 X G (_G.ok_with_items (P:=l.prog) (w:=w) (mg:=mg) (base:=base) d24.fn X0);have Z1:=d22.c1 X G (_G.ok_plain_value (P:=l.prog) (w:=w) (mg:=mg) (base:=base) d22.fn DC X3 S5);have P7:=d14.c3 X G (_G.ok_onward_from_value (P:=l.prog) (w:=w) (mg:=mg) (base:=base) d14.fn B Z1 X4 FB M8 T2);have BK:=d7.c3 X G (_G.ok_onward (P:=l.prog) (w:=w) (mg:=mg) (base:=base) d7.fn Q4 P7);have KP:=d6.c2 X G (_G.ok_begun (P:=l.prog) (w:=w) (mg:=mg) (base:=base) d6.fn K5 T0);have B8:=_G.ok_law_cell_at (P:=l.prog) (w:=w) (mg:=mg) (base:=base) F26 BW;have D8:=_G.ok_law_cell (P:=l.prog) (w:=w) (mg:=mg) (base:=base) F29 BW;have D4:=_G.ok_law_with (P:=l.prog) (w:=w) (mg:=mg) (base:=base) F30 BW;have K3:=_G.ok_law_kind (P:=l.prog) (w:=w) (mg:=mg) (base:=base) F31;have DH:=d27.c2 X G (_G.ok_law_name (P:=l.prog) (w:=w) (mg:=mg) (base:=base) d27.fn BW);have D2:=_G.ok_law_names (P:=l.prog) (w:=w) (mg:=mg) (base:=base) F28 BW DH;have M9:=_G.ok_law_taker (P:=l.prog) (w:=w) (mg:=mg) (base:=base) F35 BW;have M0:=_G.ok_leafs (P:=l.prog) (w:=w) (mg:=mg) (base:=base) F32 BW D8 b29 k29 m29 B8 b26 k26 m26 D2 b28 k28 m28 D4 b30 k30 m30 b32 k32 m32 8;have C4:=_G.ok_goods (P:=l.prog) (w:=w) (mg:=mg) (base:=base) F33 F34 F36 F37 BW D8 b29 k29 m29 K3 b31 k31 m31 D2 b28 k28 m28 D4 b30 k30 m30 M9 b35 k35 m35 M0 b32 k32 m32 b33 k33 m33 b34 k34 m34 b36 k36 m36 b37 k37 m37 4;have J9:=_G.ok_some (P:=l.prog) (w:=w) (mg:=mg) (base:=base) F33 C4 b34 k34 m34;have CV:=d38.c2 X G (_G.ok_law_head (P:=l.prog) (w:=w) (mg:=mg) (base:=base) d38.fn BW ⟨_,_,K3,b31,k31,m31⟩);have DG:=d39.c6 X G (_G.ok_law_down (P:=l.prog) (w:=w) (mg:=mg) (base:=base) d39.fn BW ⟨_,_,C4,b34,k34,m34⟩ ⟨_,_,D4,b30,k30,m30⟩);have CY:=d40.c6 X G (_G.ok_law_main (P:=l.prog) (w:=w) (mg:=mg) (base:=base) d40.fn BW ⟨_,_,B8,b26,k26,m26⟩ ⟨_,_,J9,b33,k33,m33⟩ ⟨_,_,D4,b30,k30,m30⟩ ⟨_,_,C4,b34,k34,m34⟩);have DF:=d41.c6 X G (_G.ok_law_body (P:=l.prog) (w:=w) (mg:=mg) (base:=base) d41.fn BW ⟨_,_,B8,b26,k26,m26⟩ CY DG ⟨_,_,C4,b34,k34,m34⟩ ⟨_,_,M9,b35,k35,m35⟩);have Y9:=d42.c2 X G (_G.ok_law_program (P:=l.prog) (w:=w) (mg:=mg) (base:=base) d42.fn BW ⟨_,_,B8,b26,k26,m26⟩ ⟨_,_,D2,b28,k28,m28⟩ CV DF);have U8:=_G.ok_law_plain (P:=l.prog) (w:=w) (mg:=mg) (base:=base) F43 BW b43 k43 m43 2;have Q5:=d44.c5 X G (_G.ok_law_into (P:=l.prog) (w:=w) (mg:=mg) (base:=base) d44.fn);have Z3:=d45.c3 X G (_G.ok_law_of_term (P:=l.prog) (w:=w) (mg:=mg) (base:=base) d45.fn BW Q5);have Z0:=d46.c2 X G (_G.ok_law_outcome (P:=l.prog) (w:=w) (mg:=mg) (base:=base) d46.fn BW);have X6:=d47.c3 X G (_G.ok_law_of_value (P:=l.prog) (w:=w) (mg:=mg) (base:=base) d47.fn BW Q5 Z0);have DB:=d48.c3 X G (_G.ok_law_next (P:=l.prog) (w:=w) (mg:=mg) (base:=base) d48.fn ⟨_,_,U8,b43,k43,m43⟩ Z3 X6);have V3:=_G.ok_law_alike (P:=l.prog) (w:=w) (mg:=mg) (base:=base) F49 BW b49 k49 m49 228;have X5:=d50.c2 X G (_G.ok_law_same (n:=227) (P:=l.prog) (w:=w) (mg:=mg) (base:=base) d50.fn BW V3 b49 k49 m49);exact _G.ok_law (P:=l.prog) (w:=w) (mg:=mg) (base:=base) F51 BW ⟨_,_,B8,b26,k26,m26⟩ Y9 KP BK DB X5
theorem walk{l:PySem.W.OpenLaw}{q:Program}{loose:List Str}{XP:(Str->Option Value)->Heap->Prop}{YP:World->Heap->Prop}{d:DefRec}{K:Params->PySem.W.Frag}(hn:l.most=some 63)(hdf:d.params.defaults=[])
  (hY:∀(w:World) (h:Heap),YP w h->(K w.params).In h)
  (F:∀(w:World) (mg:Str->Option Value) (fa:Addr) (h:Heap),(K w.params).In h->h.Ns mainGlobals mg->mg d.name=some (.ref fa)->
   ∃fd:FuncData,(∀(s:Shared) (u:Value),BindsTo s fd ⟨[u],[]⟩ [("_law_script",u)])/\∀base:Heap,(K w.params).In base->base.Ns mainGlobals mg->FnOk l.prog w (K w.params) mg base CX0 231 fa fd ["_law_script"] (SI (K w.params))):
  PySem.W.WalkO q loose XP YP l.row.toRowW d [] (λf vs=>PySem.call f vs):=
 _L.walk_of (n:=63) (k:=231) (x:="_law_script") (CX:=λ_=>CX0) (sp:=λw=>SI (K w.params)) hn (by decide) hdf ⟨rfl,by decide,by decide⟩ hY F (λ_ _ a ns hl hO hS=>⟨a,ns,rfl,bGZ hO hS,hl,λ_=>rfl⟩) λ_ _ _ _ _ z=>z
end _G
open PySem PySem.W PyProof.Rows
set_option maxRecDepth 100000 in
set_option maxHeartbeats 0 in
theorem PySem.Challenge.cw_speakmill_k41_one_state_leads_on_holds : PySem.Challenge.rw_speakmill_k41_one_state_leads_on.Holds := by
 w_on;o_law;k_head;(case hw=>w_witness2)
 k_fill
 refine _G.walk (l:=PySem.Challenge.rw_speakmill_k41_one_state_leads_on) rfl rfl (λw h Y=>PySem.W.kIn_of Y) ?F
 case F=>
  intro w mg fa h Xk G hmg
  refine' _G.all_mk Xk G hmg ?d0 ?d1 ?d2 ?d3 ?d4 ?d5 ?d6 ?d7 ?d8 ?d9 ?d10 ?d11 ?d12 ?d13 ?d14 ?d15 ?d16 ?d17 ?d18 ?d19 ?d20 ?d21 ?d22 ?d23 ?d24 ?d25 ?d26 ?d27 ?d28 ?d29 ?d30 ?d31 ?d32 ?d33 ?d34 ?d35 ?d36 ?d37 ?d38 ?d39 ?d40 ?d41 ?d42 ?d43 ?d44 ?d45 ?d46 ?d47 ?d48 ?d49 ?d50 ?a51 ?l51 ?c51 ?k51 ?e_GREATEST ?e_DEEPEST ?aD_PARTS_FROM ?lD_PARTS_FROM ?kD_PARTS_FROM ?pD_PARTS_FROM ?oD_PARTS_FROM ?z_len ?z_list ?z_reversed ?z_range ?z_zip ?z_isinstance ?z_str ?z_tuple ?z_sum ?z_max ?z_min ?z_int ?z_bool ?z_enumerate ?z_all ?z_dict ?z_sorted ?z_set ?z_abs
  (case d0|d1|d2|d3|d4|d5|d6|d7|d8|d9|d10|d11|d12|d13|d14|d15|d16|d17|d18|d19|d20|d21|d22|d23|d24|d25|d26|d27|d28|d29|d30|d31|d32|d33|d34|d35|d36|d37|d38|d39|d40|d41|d42|d43|d44|d45|d46|d47|d48|d49|d50=>exact⟨_,_,_,_,_,_,_,_,_,rfl,by k_is,by k_is,by k_is,by k_is⟩)
  (case a51|l51|c51|k51|e_GREATEST|e_DEEPEST|aD_PARTS_FROM|lD_PARTS_FROM|z_len|z_list|z_reversed|z_range|z_zip|z_isinstance|z_str|z_tuple|z_sum|z_max|z_min|z_int|z_bool|z_enumerate|z_all|z_dict|z_sorted|z_set|z_abs=>k_is)
  (case kD_PARTS_FROM=>k_keys)
  (case pD_PARTS_FROM=>repeat (first|exact .nil|refine .cons ⟨⟨_,rfl⟩,⟨_,rfl⟩⟩ ?_))
  (case oD_PARTS_FROM=>decide)
end
