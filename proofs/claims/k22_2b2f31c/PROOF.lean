import PyProof.Rows.All
import Wide.All
import OpenK.AllK
import Wide.FinOn
import PyProof.EqAt
import PyProof.EqKinds
import PyProof.TupleCall
import Lean
import PyProof.SetNew
import PyProof.SetRoads
import PySem.Challenge.RW_pactway_k22_parts_told
set_option Elab.async false
set_option linter.all false
set_option maxRecDepth 100000
namespace L2
open PySem PySem.Spec PyProof.Rows
noncomputable abbrev Key:=Sum Int Str
noncomputable def Z6:Key→Value→Bool
 | .inl k,v=>Value.isInt k v
 | .inr x,v=>Value.isStrOf x v
noncomputable def Kc (w:World):Key→Int
 | .inl k=>hashInt k
 | .inr x=>hashStr w x
theorem j5:∀{k:Key} {v:Value},Z6 k v=true→(∃i t,k=Sum.inl i∧v=Value.int i t)∨(∃x t,k=Sum.inr x∧v=Value.str x t)
 | .inl i,v,h=>by
  obtain⟨t,e⟩:=Value.isInt_shape (k:=i) (v:=v) h
  exact .inl ⟨i,t,rfl,e⟩
 | .inr x,v,h=>by
  obtain⟨t,e⟩:=Value.isStrOf_shape (x:=x) (v:=v) h
  exact .inr ⟨x,t,rfl,e⟩
theorem QV (a b:Int):decide ((Sum.inl a:Key)=Sum.inl b)=(a == b):=by
 by_cases e:a=b
 ·subst e;simp
 ·have h:¬(Sum.inl a:Key)=Sum.inl b:=fun q=>e (Sum.inl.inj q)
  rw[decide_eq_false h]
  exact(beq_eq_false_iff_ne.mpr e).symm
theorem QG (a b:Str):decide ((Sum.inr a:Key)=Sum.inr b)=decide (a=b):=by
 by_cases e:a=b
 ·subst e;simp
 ·have h:¬(Sum.inr a:Key)=Sum.inr b:=fun q=>e (Sum.inr.inj q)
  rw[decide_eq_false h,decide_eq_false e]
theorem QW (a:Int) (b:Str):decide ((Sum.inl a:Key)=Sum.inr b)=false:=decide_eq_false (fun q=>nomatch q)
theorem QY (a:Str) (b:Int):decide ((Sum.inr a:Key)=Sum.inl b)=false:=decide_eq_false (fun q=>nomatch q)
noncomputable def nh (prog:Program) (w:World):PySem.KeyKind prog w Key where
 is:=Z6
 hash:=Kc w
 inj:=fun v a b ha hb=>by
  rcases j5 ha with ⟨i,t,rfl,rfl⟩ | ⟨x,t,rfl,rfl⟩
  ·rcases j5 hb with ⟨j,u,rfl,e⟩ | ⟨y,u,rfl,e⟩
   ·injection e with e1 _;rw[e1]
   ·exact nomatch e
  ·rcases j5 hb with ⟨j,u,rfl,e⟩ | ⟨y,u,rfl,e⟩
   ·exact nomatch e
   ·injection e with e1 _;rw[e1]
 byValue:=fun k v h=>by
  rcases j5 h with ⟨i,t,rfl,rfl⟩ | ⟨x,t,rfl,rfl⟩<;>rfl
 pyHash:=fun hv h=>by
  rcases j5 hv with ⟨i,t,rfl,rfl⟩ | ⟨x,t,rfl,rfl⟩
  ·exact wpAny_pyHash_int h
  ·exact wpAny_pyHash_str h
 eqBool:=fun hu hv h=>by
  rcases j5 hu with ⟨i,t,rfl,rfl⟩ | ⟨x,t,rfl,rfl⟩
  ·rcases j5 hv with ⟨j,u,rfl,rfl⟩ | ⟨y,u,rfl,rfl⟩
   ·rw[QV] at h;exact wpAny_eqBool_int h
   ·rw[QW] at h;exact SeqAt.EqAt.int_str i t y u _ _ _ _ h
  ·rcases j5 hv with ⟨j,u,rfl,rfl⟩ | ⟨y,u,rfl,rfl⟩
   ·rw[QY] at h;exact SeqAt.EqAt.str_int x t j u _ _ _ _ h
   ·rw[QG] at h;exact wpAny_eqBool_str h
 «strs»:=fun k x t v h=>by
  rcases j5 h with ⟨i,u,rfl,e⟩ | ⟨y,u,rfl,e⟩
  ·exact nomatch e
  ·injection e with e1 _
   subst e1
   cases v<;>rfl
end L2
namespace L2
open PySem PySem.Spec PyProof.Rows
inductive V where
 | non | bl (b:Bool) | int (i:Int) | str (x:Str) | byt (b:Array UInt8) | flt (b:UInt64) | ref (a:Addr) | ty (n:String)
 deriving DecidableEq
noncomputable def RelV:V→Value→Prop
 | .non,u=>u=Value.none
 | .bl b,u=>u=Value.bool b
 | .int i,u=>∃t,u=Value.int i t
 | .str x,u=>∃t,u=Value.str x t
 | .byt b,u=>∃t,u=Value.bytes b t
 | .flt b,u=>∃t,u=Value.float b t
 | .ref a,u=>u=Value.ref a
 | .ty n,u=>u=Value.type n
noncomputable abbrev Vals:List V→List Value→Prop:=Paired RelV
theorem Vals.length {xs:List V} {us:List Value} (r:Vals xs us):xs.length=us.length:=Paired.length r
theorem Vals.get:∀{xs:List V} {us:List Value} {i:Nat} {x:V},Vals xs us→xs[i]?=some x→∃u,us[i]?=some u∧RelV x u
 | _,_,_,_,.nil,e=>by simp at e
 | _,_,0,_,.cons r _,e=>by simp at e;subst e;exact⟨_,rfl,r⟩
 | _,_,i + 1,x,.cons _ t,e=>by
  obtain⟨u,h1,h2⟩:=Vals.get (i:=i) (x:=x) t (by simpa using e)
  exact⟨u,by simpa using h1,h2⟩
theorem Vals.set {x:V} {u:Value} (r:RelV x u):∀{xs:List V} {us:List Value} (i:Nat),Vals xs us→Vals (xs.set i x) (us.set i u)
 | _,_,_,.nil=>.nil
 | _,_,0,.cons _ t=>.cons r t
 | _,_,i + 1,.cons q t=>.cons q (Vals.set r i t)
theorem Vals.append:∀{xs ys:List V} {us ws:List Value},Vals xs us→Vals ys ws→Vals (xs ++ ys) (us ++ ws)
 | _,_,_,_,.nil,s=>s
 | _,_,_,_,.cons r t,s=>.cons r (Vals.append t s)
theorem Vals.take:∀{xs:List V} {us:List Value} (n:Nat),Vals xs us→Vals (xs.take n) (us.take n)
 | _,_,0,_=>.nil
 | _,_,_ + 1,.nil=>.nil
 | _,_,n + 1,.cons r t=>.cons r (Vals.take n t)
theorem Vals.drop:∀{xs:List V} {us:List Value} (n:Nat),Vals xs us→Vals (xs.drop n) (us.drop n)
 | _,_,0,r=>r
 | _,_,_ + 1,.nil=>.nil
 | _,_,n + 1,.cons _ t=>Vals.drop n t
noncomputable def dj:Option V→Option Value→Prop
 | some v,some u=>RelV v u
 | none,none=>True
 | _,_=>False
noncomputable def KV {κ:Type}:List (κ × V)→List (κ × Value)→Prop:=Paired fun (p:κ × V) (q:κ × Value)=>p.1=q.1∧RelV p.2 q.2
noncomputable def kV:Key→V
 | .inl i=>.int i
 | .inr x=>.str x
inductive HO where
 | lst (xs:List V)
 | tup (xs:List V)
 | dK (kvs:List (Key × V)) | dT (kvs:List (List Key × V))
 | set (S:Int→Bool) (n:Nat)
 | ins (C dx:Addr) (fs:List (Str × V))
 | own (x:Addr)
 | xd (fs:List (Str × V))
 | met (f x:Addr)
 | rng (lo hi:Int)
 | frz (o:Obj) (u:HO)
 | tbl (ps:Array Value)
 | ext (φ:Heap→Prop)
noncomputable abbrev Hp:=Addr→Option HO
noncomputable def upd (H:Hp) (a:Addr) (o:HO):Hp:=fun b=>if b=a then some o else H b
theorem qg {H:Hp} {a:Addr} {o:HO}:upd H a o a=some o:=by unfold upd;rw[if_pos rfl]
theorem qY {H:Hp} {a b:Addr} {o:HO} (h:b≠a):upd H a o b=H b:=by unfold upd;rw[if_neg h]
theorem wF {H:Hp} {a:Addr} {o u:HO}:upd (upd H a o) a u=upd H a u:=by
 funext b;unfold upd;split<;>rfl
theorem xU {H:Hp} {a b:Addr} {o u:HO} (h:H a=some o) (h':H b=some u) (d:o≠u):a≠b:=by
 intro e;subst e;rw[h] at h';exact d (Option.some.inj h')
theorem qb {H:Hp} {a b:Addr} {o:HO} (h:H a=some o) (h':H b=none):a≠b:=by
 intro e;subst e;rw[h] at h';cases h'
section
variable (P:Program) (w:World)
noncomputable def kr (H:Hp) (h:Heap) (a:Addr):HO→Prop
 | .lst xs=>xs.length≤sizeLine∧∃(its:List Value) (n:Nat),Vals xs its∧h.get? a=some { cls:=.type "list",data:=.seq its.toArray n }
 | .tup xs=>xs.length≤sizeLine∧∃its:List Value,Vals xs its∧IsTup h a its.toArray
 | .dK kvs=>kvs.length≤sizeLine∧(a == sysModules)=false∧∃vs,KV kvs vs∧h.DictOf (nh P w) a vs
 | .dT kvs=>kvs.length≤sizeLine∧(a == sysModules)=false∧∃xs:List (List Key × Addr × Value),
   Paired (fun (p:List Key × V) (q:List Key × Addr × Value)=>p.1=q.1∧H q.2.1=some (.tup (p.1.map kV))∧RelV p.2 q.2.2) kvs xs∧
   ∃o es ep,h.get? a=some o∧o.ExactDict∧o.data=.dict es ep∧es.toList=xs.map (entryOfKey (tupleKind (nh P w)))∧(xs.map (·.1)).Nodup
 | .set S n=>h.SetOf (intKind P w) a S n
 | .ins C dx fs=>H dx=some (.own a)∧fs.length≤1000∧dx≠a∧h.get? a=some (PySem.W.instObj C dx)∧
   ∃mA,h.Ns1 dx mA∧(∀f,dj (fs.lookup f) (mA f))∧PySem.Within mA (fs.map (·.1))
 | .own _=>∃o,h.get? a=some o
 | .xd fs=>∃mA,h.Ns1 a mA∧∀f,dj (fs.lookup f) (mA f)
 | .rng lo hi=>∃t u v,h.get? a=some { cls:=.type "range",data:=.fields #[.int lo t,.int hi u,.int 1 v] }
 | .frz o u=>h.get? a=some o∧kr H h a u
 | .tbl ps=>h.get? a=some { cls:=.none,data:=.fields ps }
 | .met f x=>h.get? a=some (PySem.W.methodObj (.ref f) (.ref x))
 | .ext φ=>φ h∧(∃o,h.get? a=some o)∧∀h1 h2:Heap,φ h1→(∀o,h1.get? a=some o→h2.get? a=some o)→φ h2
noncomputable def mZ (H:Hp) (h:Heap):Prop:=∀a o,H a=some o→kr P w H h a o
end
section
variable {P:Program} {w:World} {H H':Hp} {h h':Heap} {a:Addr} {o:HO}
theorem kr.lt (x:kr P w H h a o):a < h.objs.size:=by
 cases o with
 | lst xs=>obtain⟨_,_,_,_,e⟩:=x;exact Heap.lt_size e
 | tup xs=>obtain⟨_,_,_,p⟩:=x;exact p.lt
 | dK kvs=>obtain⟨_,_,_,_,o,_,_,e,_⟩:=x;exact Heap.lt_size e
 | dT kvs=>obtain⟨_,_,_,_,o,_,_,e,_⟩:=x;exact Heap.lt_size e
 | set S n=>obtain⟨o,_,_,_,e,_⟩:=x;exact Heap.lt_size e
 | ins C dx fs=>obtain⟨_,_,_,e,_⟩:=x;exact Heap.lt_size e
 | own y=>obtain⟨_,e⟩:=x;exact Heap.lt_size e
 | xd fs=>obtain⟨_,⟨_,_,_,e,_⟩,_⟩:=x;exact Heap.lt_size e
 | rng lo hi=>obtain⟨_,_,_,e⟩:=x;exact Heap.lt_size e
 | frz ob u=>obtain⟨e,_⟩:=x;exact Heap.lt_size e
 | tbl ps=>exact Heap.lt_size (show h.get? a=some _ from x)
 | met f y=>exact Heap.lt_size (show h.get? a=some _ from x)
 | ext φ=>obtain⟨_,⟨_,e⟩,_⟩:=x;exact Heap.lt_size e
theorem Paired.QB {α β:Type} {F G:α→β→Prop}:∀{l₁:List α} {l₂:List β},Paired F l₁ l₂→(∀a b,F a b→G a b)→Paired G l₁ l₂
 | _,_,.nil,_=>.nil
 | _,_,.cons r t,f=>.cons (f _ _ r) (Paired.QB t f)
theorem Paired.imp' {α β:Type} {F G:α→β→Prop} (f:∀a b,F a b→G a b) {l₁:List α} {l₂:List β} (r:Paired F l₁ l₂):Paired G l₁ l₂:=Paired.QB r f
theorem kr.cJ (x:kr P w H h a o) (k:∀b u,(b=a∨H b=some (.own a))→h.get? b=some u→h'.get? b=some u)
  (ho:∀b,H b=some (.own a)→H' b=some (.own a)) (ht:∀b xs,H b=some (.tup xs)→H' b=some (.tup xs)):kr P w H' h' a o:=by
 induction o with
 | lst xs=>obtain⟨z,its,n,r,e⟩:=x;exact⟨z,its,n,r,k _ _ (.inl rfl) e⟩
 | tup xs=>obtain⟨z,its,r,ob,e,c⟩:=x;exact⟨z,its,r,ob,k _ _ (.inl rfl) e,c⟩
 | dK kvs=>obtain⟨z,y,vs,r,ob,es,ep,e,c⟩:=x;exact⟨z,y,vs,r,ob,es,ep,k _ _ (.inl rfl) e,c⟩
 | dT kvs=>
  obtain⟨z,y,xs,r,ob,es,ep,e,c⟩:=x
  exact⟨z,y,xs,Paired.QB r fun p q z=>⟨z.1,ht _ _ z.2.1,z.2.2⟩,ob,es,ep,k _ _ (.inl rfl) e,c⟩
 | set S n=>obtain⟨ob,es,ep,t,e,c⟩:=x;exact⟨ob,es,ep,t,k _ _ (.inl rfl) e,c⟩
 | ins C dx fs=>
  obtain⟨d,z,ne,e,mA,⟨od,es,ep,e2,c⟩,r⟩:=x
  exact⟨ho _ d,z,ne,k _ _ (.inl rfl) e,mA,⟨od,es,ep,k _ _ (.inr d) e2,c⟩,r⟩
 | own y=>obtain⟨ob,e⟩:=x;exact⟨ob,k _ _ (.inl rfl) e⟩
 | xd fs=>obtain⟨mA,⟨od,es,ep,e,c⟩,r⟩:=x;exact⟨mA,⟨od,es,ep,k _ _ (.inl rfl) e,c⟩,r⟩
 | rng lo hi=>obtain⟨t,u,v,e⟩:=x;exact⟨t,u,v,k _ _ (.inl rfl) e⟩
 | frz ob u ih=>obtain⟨e,q⟩:=x;exact⟨k _ _ (.inl rfl) e,ih q⟩
 | tbl ps=>
  have e:h.get? a=some { cls:=.none,data:=.fields ps }:=x
  show h'.get? a=some { cls:=.none,data:=.fields ps }
  exact k a _ (.inl rfl) e
 | met f y=>
  have e:h.get? a=some (PySem.W.methodObj (.ref f) (.ref y)):=x
  show h'.get? a=some (PySem.W.methodObj (.ref f) (.ref y))
  exact k a _ (.inl rfl) e
 | ext φ=>obtain⟨p,⟨o,e⟩,st⟩:=x;exact⟨st _ _ p fun o q=>k _ _ (.inl rfl) q,⟨o,k _ _ (.inl rfl) e⟩,st⟩
theorem mZ.lt (x:mZ P w H h) (e:H a=some o):a < h.objs.size:=(x a o e).lt
theorem mZ.fresh (x:mZ P w H h) (e:h.objs.size≤a):H a=none:=by
 cases q:H a with
 | none=>rfl
 | some u=>exact absurd (Nat.lt_of_lt_of_le (x.lt q) e) (Nat.lt_irrefl _)
theorem mZ.kept (x:mZ P w H h) (k:∀b u,h.get? b=some u→h'.get? b=some u):mZ P w H h':=fun a o e=>
 (x a o e).cJ (fun b u _ q=>k b u q) (fun _ q=>q) fun _ _ q=>q
theorem mZ.laid (x:mZ P w H h) (k:∀b u,h.get? b=some u→h'.get? b=some u) (hp:h.objs.size≤a) (new:kr P w (upd H a o) h' a o):mZ P w (upd H a o) h':=fun b u e=>by
 have hn:=x.fresh hp
 by_cases hb:b=a
 ·subst hb;rw[qg] at e;cases e;exact new
 ·rw[qY hb] at e
  exact(x b u e).cJ (fun c v _ q=>k c v q) (fun c q=>by rw[qY (qb q hn)];exact q) fun c xs q=>by rw[qY (qb q hn)];exact q
end
noncomputable def Rd (H:Hp) (a:Addr) (u:HO):Prop:=H a=some u∨∃o,H a=some (.frz o u)
theorem Rd.ok {P:Program} {w:World} {H:Hp} {h:Heap} {a:Addr} {u:HO} (r:Rd H a u) (x:mZ P w H h):kr P w H h a u:=by
 rcases r with r | ⟨o,r⟩
 ·exact x a u r
 ·obtain⟨_,q⟩:=x a _ r
  exact q
noncomputable def XT:Option HO→Prop
 | some (.lst _)=>True
 | some (.dK _)=>True
 | some (.dT _)=>True
 | some (.set _ _)=>True
 | some (.ins _ _ _)=>True
 | some (.ext _)=>True
 | _=>False
section
variable {P:Program} {w:World} {H:Hp} {h h':Heap} {x e:Addr} {o':HO}
theorem mZ.write (ok:mZ P w H h) (mu:XT (H x)) (he:e=x∨H e=some (.own x)) (k:∀b u,b≠e→h.get? b=some u→h'.get? b=some u) (heo:∃u,h'.get? e=some u)
  (new:kr P w (upd H x o') h' x o'):mZ P w (upd H x o') h':=fun b u q=>by
 have nown:∀c y,H c=some (.own y)→c≠x:=fun c y r z=>by subst z;rw[r] at mu;exact mu
 have ntup:∀c xs,H c=some (.tup xs)→c≠x:=fun c xs r z=>by subst z;rw[r] at mu;exact mu
 by_cases hb:b=x
 ·subst hb;rw[qg] at q;cases q;exact new
 ·rw[qY hb] at q
  by_cases hbe:b=e
  ·have q':H b=some (.own x):=by
    rcases he with z | z
    ·exact absurd (hbe.trans z) hb
    ·rw[hbe];exact z
   rw[q] at q';cases q'
   obtain⟨v,hv⟩:=heo
   exact⟨v,by rw[hbe];exact hv⟩
  ·refine(ok b u q).cJ (fun c v hc r=>k c v ?_ r) (fun c r=>by rw[qY (nown c b r)];exact r) fun c xs r=>by rw[qY (ntup c xs r)];exact r
   rcases hc with rfl | hc
   ·exact hbe
   ·rintro rfl
    rcases he with z | z
    ·exact nown c b hc z
    ·rw[hc] at z;cases z;exact hb rfl
end
structure Un (fs ex:List Addr) (H H':Hp) (h h':Heap):Prop where
 keep:∀b o,h.get? b=some o→H b=none→b∉fs→b∉ex→h'.get? b=some o
 slot:∀b o,h.get? b=some o→H b=none→b∈fs→b∉ex→∃sl,h'.get? b=some { o with slots:=sl }
 free:∀b o,h.get? b=some o→H b=none→b∉ex→H' b=none
 there:∀b o,h.get? b=some o→b∉ex→∃o',h'.get? b=some o'
 lO:∀b xs,H b=some (.tup xs)→H' b=some (.tup xs)
 ur:∀b o u,H b=some (.frz o u)→H' b=some (.frz o u)
 lS:∀b ps,H b=some (.tbl ps)→∃more,H' b=some (.tbl (ps ++ more))
section
variable {fs fs' ex ex':List Addr} {H H1 H2:Hp} {h h1 h2 h':Heap} {a x e:Addr} {o:HO}
theorem Un.any (u:Un fs ex H H1 h h1) {b:Addr} {ob:Obj} (q:h.get? b=some ob) (n:H b=none) (hx:b∉ex):∃sl,h1.get? b=some { ob with slots:=sl }:=by
 by_cases hb:b∈fs
 ·exact u.slot b ob q n hb hx
 ·exact⟨ob.slots,u.keep b ob q n hb hx⟩
theorem Un.kept (k:∀b u,h.get? b=some u→h'.get? b=some u):Un fs ex H H h h':=
 ⟨fun b ob q _ _ _=>k b ob q,fun b ob q _ _ _=>⟨ob.slots,k b ob q⟩,fun _ _ _ n _=>n,fun b ob q _=>⟨ob,k b ob q⟩,fun _ _ q=>q,fun _ _ _ q=>q,fun _ ps q=>⟨#[],by rw[q];simp⟩⟩
theorem Un.refl:Un fs ex H H h h:=Un.kept fun _ _ q=>q
theorem Un.laid (k:∀b u,h.get? b=some u→h'.get? b=some u) (hp:h.objs.size≤a) (hn:H a=none):Un fs ex H (upd H a o) h h' where
 keep:=fun b u q _ _ _=>k b u q
 slot:=fun b u q _ _ _=>⟨u.slots,k b u q⟩
 free:=fun b u q n _=>by rw[qY (Nat.ne_of_lt (Nat.lt_of_lt_of_le (Heap.lt_size q) hp))];exact n
 there:=fun b u q _=>⟨u,k b u q⟩
 lO:=fun b xs q=>by rw[qY (qb q hn)];exact q
 ur:=fun b u xs q=>by rw[qY (qb q hn)];exact q
 lS:=fun b ps q=>⟨#[],by rw[qY (qb q hn),q];simp⟩
theorem Un.write (mu:XT (H x)) (he:e=x∨H e=some (.own x)) (k:∀b u,b≠e→h.get? b=some u→h'.get? b=some u) (heo:∃u,h'.get? e=some u):Un fs ex H (upd H x o) h h':=by
 have hx:∀b,H b=none→b≠x:=fun b n z=>by subst z;rw[n] at mu;exact mu
 have hb:∀b,H b=none→b≠e:=fun b n z=>by
  subst z
  rcases he with r | r
  ·exact hx b n r
  ·rw[n] at r;cases r
 have hm:∀b u,H b=some u→¬XT (some u)→b≠x:=fun b u q nm z=>by subst z;rw[q] at mu;exact nm mu
 refine⟨fun b u q n _ _=>k b u (hb b n) q,fun b u q n _ _=>⟨u.slots,k b u (hb b n) q⟩,fun b u q n _=>by rw[qY (hx b n)];exact n,fun b u q _=>?_,
  fun b xs q=>by rw[qY (hm b _ q fun z=>z)];exact q,fun b u xs q=>by rw[qY (hm b _ q fun z=>z)];exact q,fun b ps q=>⟨#[],by rw[qY (hm b _ q fun z=>z),q];simp⟩⟩
 by_cases hbe:b=e
 ·subst hbe;exact heo
 ·exact⟨u,k b u hbe q⟩
end
noncomputable def X9 (h:Heap) (H:Hp):List Addr:=(List.range h.objs.size).filter fun a=>(H a).isSome
noncomputable def ue (h:Heap) (H:Hp):Heap:=PySem.W.hideAll h (X9 h H)
theorem nE (h:Heap) (H:Hp):(ue h H).objs.size=h.objs.size:=PySem.W.hideAll_size _ _
theorem iN {h:Heap} {H:Hp} {b:Addr} {o:Obj} (e:h.get? b=some o) (n:H b=none):(ue h H).get? b=some o:=
 PySem.W.hideAll_get _ e fun hm=>by
  have q:(H b).isSome=true:=(List.mem_filter.mp hm).2
  rw[n] at q;simp at q
theorem Za {h:Heap} {H:Hp} {b:Addr} {o:Obj} (e:(ue h H).get? b=some o):h.get? b=some o∧H b=none:=by
 have e':h.get? b=some o:=PySem.W.of_hideAll (X9 h H) e
 refine⟨e',?_⟩
 cases q:H b with
 | none=>rfl
 | some x=>
  have hm:b∈X9 h H:=List.mem_filter.mpr ⟨List.mem_range.mpr (Heap.lt_size e'),by simp [q]⟩
  have z:(ue h H).get? b=none:=PySem.W.hideAll_none (X9 h H) hm
  rw[z] at e;cases e
noncomputable def aN (g h:Heap) (L:Addr):List (Addr × Obj):=(List.range h.objs.size).filterMap fun a=>if a=L∨(g.get? a).isSome=true then none else (h.get? a).map fun o=>(a,o)
noncomputable def rest (g h:Heap) (L d:Addr):List (Addr × Obj):=(aN g h L).filter fun p=>decide (p.1≠d)
end L2
namespace L2
open PySem PySem.Spec PyProof.Rows
structure Mod (K:PySem.W.Frag) (mg:Str→Option Value) (base:Heap):Prop where
 Jd:K.In base
 glob:base.Ns mainGlobals mg
 blt:∃mb,base.Ns builtinsNs mb∧∀x:Str,x≠"__name__"→mb x=bootBuiltins x
 nolimit:base.NoLimit
structure Cx where
 prog:Program
 w:World
 K:PySem.W.Frag
 mg:Str→Option Value
 base:Heap
 A:Around
 N:List Str
 s₀:Shared
 H₀:Hp
 env:Env
 outer:List Env
 stack:List Env
 ex:List Addr
 fn:Str→Bool
 calm:Bool
 pn:List (Addr × Obj)
 xe:Value→Shared→Prop
noncomputable def o8 (l:List Env):List Addr:=l.filterMap (·.frame)
noncomputable abbrev Cx.fs (X:Cx):List Addr:=o8 X.outer
noncomputable def Kw (sc:Scope) (x:Str):Prop:=sc.names.lookup x=some .local∨sc.names.lookup x=some .cell∨sc.names.lookup x=some .free
noncomputable def Loc (sc:Scope) (x:Str):Prop:=sc.names.lookup x=some .local∨sc.names.lookup x=some .cell
noncomputable def Look (env:Env) (h:Heap) (m:Str→Option Value) (x:Str) (u:Value):Prop:=
 (env.kindOf x=some .local∧m x=some u)∨((env.kindOf x=some .cell∨env.kindOf x=some .free)∧∃c,env.cells.lookup x=some c∧h.IsCell c (some u))
structure Cx.Ok (X:Cx):Prop where
 mod:Mod X.K X.mg X.base
 kind:X.env.scope.kind=.function
 glob:X.env.globals=mainGlobals
 blt:X.env.builtins=builtinsNs
 above:X.s₀.heap.objs.size≤X.env.locals
 inj:∀x y c,X.env.cells.lookup x=some c→X.env.cells.lookup y=some c→x=y
 has:∀x,(X.env.kindOf x=some .cell∨X.env.kindOf x=some .free)→∃c,X.env.cells.lookup x=some c
 JK:∀x c,X.fn x=true→X.env.cells.lookup x=some c→X.s₀.heap.objs.size≤c
 hd:X.calm=true→X.A.handled=none
 frames:X.A.frames=some X.stack
 X4:X.stack=X.outer∨(X.stack=X.env :: X.outer∧X.env.frame=some X.env.locals)
 Jp:∀b∈X.ex,b≠X.env.locals∧∀x c,X.env.cells.lookup x=some c→c≠b
 bs:∀b o,X.base.get? b=some o→X.s₀.heap.get? b=some o∧X.H₀ b=none
 oA:X.base.objs.size≤X.s₀.heap.objs.size
 ot:∀b o,X.base.get? b=some o→b∉X.ex
 nN:∀b∈X.ex,b∉X.fs
 mJ:X.s₀.heap.FunFrames X.base X.outer
 QZ:∀b∈X.fs,X.H₀ b=none
structure Inv (X:Cx) (pins:List (Addr × Obj)) (σ:List (Option V)) (H:Hp) (s:Shared):Prop where
 ok:X.Ok
 os:s.os=X.s₀.os
 bare:AllBare s.gens
 base:Un X.fs X.ex X.H₀ H X.s₀.heap s.heap
 loc:∃m,s.heap.Ns X.env.locals m∧∀(i:Nat) (x:Str) (v:V),X.N[i]?=some x→σ[i]?=some (some v)→Kw X.env.scope x→∃u,RelV v u∧Look X.env s.heap m x u
 cell:∀x c,X.env.cells.lookup x=some c→∃v,s.heap.IsCell c v
 free:H X.env.locals=none
 yA:∀x c,X.env.cells.lookup x=some c→H c=none
 pin:∀p∈X.pn ++ pins,s.heap.get? p.1=some p.2∧H p.1=none∧p.1≠X.env.locals∧p.1∉X.fs∧∀v,p.2.data≠.cell v
 jG:mZ X.prog X.w H s.heap
 len:σ.length=X.N.length
section
variable {X:Cx} {pins:List (Addr × Obj)} {σ:List (Option V)} {H H':Hp} {s:Shared} {h':Heap}
theorem Cx.Ok.Ki (ok:X.Ok) {b:Addr} {o:Obj} (e:X.base.get? b=some o):b∉X.fs:=fun hb=>by
 have:=(ok.mJ.mem hb).1
 rw[e] at this;cases this
theorem Inv.bs (I:Inv X pins σ H s):∀b o,X.base.get? b=some o→s.heap.get? b=some o∧H b=none:=fun b o e=>
 ⟨I.base.keep b o (I.ok.bs b o e).1 (I.ok.bs b o e).2 (I.ok.Ki e) (I.ok.ot b o e),I.base.free b o (I.ok.bs b o e).1 (I.ok.bs b o e).2 (I.ok.ot b o e)⟩
theorem Inv.bk (I:Inv X pins σ H s):∀b o,X.base.get? b=some o→s.heap.get? b=some o:=fun b o e=>(I.bs b o e).1
theorem Inv.mod (I:Inv X pins σ H s):Mod X.K X.mg X.base:=I.ok.mod
theorem Inv.fe (I:Inv X pins σ H s):X.K.In s.heap:=I.ok.mod.Jd.keeps I.bk
theorem Inv.fr (I:Inv X pins σ H s):∃m,Fr X.base X.env.locals s.heap m:=
 let ⟨m,hn,_⟩:=I.loc
 ⟨m,hn,I.bk,Nat.le_trans I.ok.oA I.ok.above⟩
theorem Inv.lt (I:Inv X pins σ H s):X.env.locals < s.heap.objs.size:=let ⟨_,hn,_⟩:=I.loc;hn.lt
theorem Inv.sz (I:Inv X pins σ H s):X.s₀.heap.objs.size≤s.heap.objs.size:=Nat.le_trans I.ok.above (Nat.le_of_lt I.lt)
theorem Inv.Ke (I:Inv X pins σ H s) {a:Addr} (h:s.heap.objs.size≤a):a∉X.fs:=fun hb=>by
 obtain⟨_,o,ho,_⟩:=I.ok.mJ.mem hb
 exact absurd (Nat.lt_of_lt_of_le (Heap.lt_size ho) (Nat.le_trans I.sz h)) (Nat.lt_irrefl _)
theorem Inv.Qt (I:Inv X pins σ H s):∀x c,X.env.cells.lookup x=some c→c≠X.env.locals:=fun x c e z=>by
 obtain⟨v,o,ho,hd⟩:=I.cell x c e
 obtain⟨m,⟨o',es,ep,ho',hd',_⟩,_⟩:=I.loc
 rw[z,ho'] at ho;cases ho;rw[hd'] at hd;cases hd
theorem Inv.mJ (I:Inv X pins σ H s):s.heap.FunFrames X.base X.outer:=by
 have all:∀(l:List Env),(∀b∈o8 l,b∈X.fs)→X.s₀.heap.FunFrames X.base l→s.heap.FunFrames X.base l:=by
  intro l
  induction l with
  | nil=>intro _ _;trivial
  | cons env r ih=>
   intro hs hl
   obtain⟨hk,⟨L,o,hf,hn,ho,hd⟩,hr⟩:=hl
   have hL:L∈X.fs:=hs L (by unfold o8;rw[List.filterMap_cons,hf];exact List.mem_cons_self)
   obtain⟨sl,e⟩:=I.base.slot L o ho (I.ok.QZ L hL) hL fun z=>I.ok.nN L z hL
   exact⟨hk,⟨L,_,hf,hn,e,hd⟩,ih (fun b hb=>hs b (by unfold o8;rw[List.filterMap_cons,hf];exact List.mem_cons_of_mem _ hb)) hr⟩
 exact all X.outer (fun _ hb=>hb) I.ok.mJ
theorem Inv.stack (I:Inv X pins σ H s):s.heap.FunFrames X.base X.stack:=by
 rcases I.ok.X4 with e | ⟨e,hf⟩
 ·rw[e];exact I.mJ
 ·rw[e]
  obtain⟨m,hn,_⟩:=I.loc
  refine .cons (by rw[I.ok.kind];decide) hf hn ?_ I.mJ
  exact Heap.get?_none_of_le (Nat.le_trans I.ok.oA I.ok.above)
theorem Inv.uI (I:Inv X pins σ H s):∀b∈o8 X.stack,b∈X.env.locals :: X.fs:=fun b hb=>by
 rcases I.ok.X4 with e | ⟨e,hf⟩
 ·rw[e] at hb;exact List.mem_cons_of_mem _ hb
 ·rw[e] at hb
  unfold o8 at hb
  rw[List.filterMap_cons,hf] at hb
  exact hb
theorem Inv.uO (I:Inv X pins σ H s):∀b∈o8 X.stack,H b=none:=fun b hb=>by
 rcases List.mem_cons.mp (I.uI b hb) with e | hb
 ·rw[e];exact I.free
 ·obtain⟨_,o,ho,_⟩:=I.ok.mJ.mem hb
  exact I.base.free b o ho (I.ok.QZ b hb) fun z=>I.ok.nN b z hb
theorem Inv.step {g':Array GenState} {t':Nat} {d':Drawn} {ch:List Addr} (I:Inv X pins σ H s)
  (hch:∀b∈ch,(b∈X.ex∨X.s₀.heap.objs.size≤b)∧b≠X.env.locals∧(∀x c,X.env.cells.lookup x=some c→c≠b)∧∀p∈X.pn ++ pins,p.1≠b)
  (keep:∀b o,b≠X.env.locals→b∉X.fs→b∉ch→s.heap.get? b=some o→H b=none→h'.get? b=some o)
  (slot:∀b o,b≠X.env.locals→b∈X.fs→b∉ch→s.heap.get? b=some o→H b=none→∃sl,h'.get? b=some { o with slots:=sl }) (free:∀b o,b∉ch→s.heap.get? b=some o→H b=none→H' b=none)
  (there:∀b o,b∉ch→s.heap.get? b=some o→∃o',h'.get? b=some o')
  (lO:∀b xs,H b=some (.tup xs)→H' b=some (.tup xs)) (ur:∀b o u,H b=some (.frz o u)→H' b=some (.frz o u)) (lS:∀b ps,H b=some (.tbl ps)→∃more,H' b=some (.tbl (ps ++ more)))
  (ns:∀m,s.heap.Ns X.env.locals m→h'.Ns X.env.locals m) (jG:mZ X.prog X.w H' h') (hg:AllBare g') :
  Inv X pins σ H' { s with heap:=h',gens:=g',drawn:=d',toks:=t' }:=by
 have neL:∀b o,X.s₀.heap.get? b=some o→b≠X.env.locals:=fun b o e=>Nat.ne_of_lt (Nat.lt_of_lt_of_le (Heap.lt_size e) I.ok.above)
 have neC:∀b o,X.s₀.heap.get? b=some o→b∉X.ex→b∉ch:=fun b o e hx hb=>by
  rcases(hch b hb).1 with z | z
  ·exact hx z
  ·exact absurd (Nat.lt_of_lt_of_le (Heap.lt_size e) z) (Nat.lt_irrefl _)
 have cellK:∀x c,X.env.cells.lookup x=some c→∀v,s.heap.IsCell c v→h'.IsCell c v:=fun x c e v ⟨o,ho,hd⟩=>by
  have nch:c∉ch:=fun z=>(hch c z).2.2.1 x c e rfl
  by_cases hc:c∈X.fs
  ·obtain⟨sl,q⟩:=slot c o (I.Qt x c e) hc nch ho (I.yA x c e)
   exact⟨_,q,hd⟩
  ·exact⟨o,keep c o (I.Qt x c e) hc nch ho (I.yA x c e),hd⟩
 refine⟨I.ok,I.os,hg,⟨fun b o e n hb hx=>?_,fun b o e n hb hx=>?_,fun b o e n hx=>?_,fun b o e hx=>?_,fun b xs e=>lO b xs (I.base.lO b xs e),fun b o xs e=>ur b o xs (I.base.ur b o xs e),fun b ps e=>?_⟩,?_,fun x c e=>?_,?_,fun x c e=>?_,fun p hp=>?_,jG,I.len⟩
 ·exact keep b o (neL b o e) hb (neC b o e hx) (I.base.keep b o e n hb hx) (I.base.free b o e n hx)
 ·obtain⟨sl,e1⟩:=I.base.slot b o e n hb hx
  obtain⟨sl',e2⟩:=slot b _ (neL b o e) hb (neC b o e hx) e1 (I.base.free b o e n hx)
  exact⟨sl',e2⟩
 ·obtain⟨o',e1⟩:=I.base.there b o e hx
  exact free b o' (neC b o e hx) e1 (I.base.free b o e n hx)
 ·obtain⟨o',e1⟩:=I.base.there b o e hx
  exact there b o' (neC b o e hx) e1
 ·obtain⟨m1,e1⟩:=I.base.lS b ps e
  obtain⟨m2,e2⟩:=lS b _ e1
  exact⟨m1 ++ m2,by rw[e2,Array.append_assoc]⟩
 ·obtain⟨m,hn,hl⟩:=I.loc
  refine⟨m,ns m hn,fun i x v e1 e2 e3=>?_⟩
  obtain⟨u,r,l⟩:=hl i x v e1 e2 e3
  refine⟨u,r,?_⟩
  rcases l with l | ⟨k,c,e,z⟩
  ·exact .inl l
  ·exact .inr ⟨k,c,e,cellK x c e _ z⟩
 ·obtain⟨v,z⟩:=I.cell x c e
  exact⟨v,cellK x c e v z⟩
 ·obtain⟨m,⟨o,_,_,ho,_⟩,_⟩:=I.loc
  exact free _ o (fun z=>(hch _ z).2.1 rfl) ho I.free
 ·obtain⟨v,o,ho,hd⟩:=I.cell x c e
  exact free c o (fun z=>(hch c z).2.2.1 x c e rfl) ho (I.yA x c e)
 ·obtain⟨e,n,ne,nf,d⟩:=I.pin p hp
  have nch:p.1∉ch:=fun z=>(hch p.1 z).2.2.2 p hp rfl
  exact⟨keep p.1 p.2 ne nf nch e n,free p.1 p.2 nch e n,ne,nf,d⟩
theorem Inv.un {t':Nat} (I:Inv X pins σ H s) (u:Un X.fs [] H H' s.heap h') (jG:mZ X.prog X.w H' h'):Inv X pins σ H' { s with heap:=h',toks:=t' }:=by
 obtain⟨m,⟨o,es,ep,ho,r⟩,_⟩:=id I.loc
 obtain⟨sl,hL⟩:=u.any ho I.free (by simp)
 exact I.step (g':=s.gens) (d':=s.drawn) (ch:=[]) (fun _ z=>nomatch z) (fun b o _ hb _ e n=>u.keep b o e n hb (by simp)) (fun b o _ hb _ e n=>u.slot b o e n hb (by simp)) (fun b o _ e n=>u.free b o e n (by simp)) (fun b o _ e=>u.there b o e (by simp)) u.lO u.ur u.lS (fun m' hm=>by
  obtain⟨o',es',ep',ho',r'⟩:=hm
  rw[ho] at ho';cases ho'
  exact⟨_,es',ep',hL,r'⟩) jG I.bare
theorem Inv.call {g':Array GenState} {t':Nat} {d':Drawn} {ch:List Addr} (I:Inv X pins σ H s) (u:Un (o8 X.stack) ch H H' s.heap h') (jG:mZ X.prog X.w H' h') (hg:AllBare g')
  (hch:∀b∈ch,(b∈X.ex∨X.s₀.heap.objs.size≤b)∧b≠X.env.locals∧(∀x c,X.env.cells.lookup x=some c→c≠b)∧∀p∈X.pn ++ pins,p.1≠b) :
  Inv X pins σ H' { s with heap:=h',gens:=g',drawn:=d',toks:=t' }:=by
 obtain⟨m,⟨o,es,ep,ho,r⟩,_⟩:=id I.loc
 obtain⟨sl,hL⟩:=u.any ho I.free fun z=>(hch _ z).2.1 rfl
 exact I.step (ch:=ch) hch (fun b o hL hb hc e n=>u.keep b o e n (fun z=>(List.mem_cons.mp (I.uI b z)).elim hL hb) hc) (fun b o _ _ hc e n=>u.any e n hc) (fun b o hc e n=>u.free b o e n hc) (fun b o hc e=>u.there b o e hc) u.lO u.ur u.lS (fun m' hm=>by
  obtain⟨o',es',ep',ho',r'⟩:=hm
  rw[ho] at ho';cases ho'
  exact⟨_,es',ep',hL,r'⟩) jG hg
theorem Inv.turned {t':Nat} {it:Addr} (I:Inv X pins σ H s) (k:∀b o,b≠it→s.heap.get? b=some o→h'.get? b=some o) (hn:H it=none) (hL:it≠X.env.locals)
  (h1:it∈X.ex∨X.s₀.heap.objs.size≤it) (h2:∀x c,X.env.cells.lookup x=some c→c≠it) (h3:∀p∈X.pn ++ pins,p.1≠it):Inv X pins σ H { s with heap:=h',toks:=t' }:=by
 have nit:∀b u,H b=some u→b≠it:=fun b u e z=>by rw[z,hn] at e;cases e
 refine I.step (g':=s.gens) (d':=s.drawn) (ch:=[it]) (fun b hb=>?_) (fun b o _ _ hc e _=>k b o (fun z=>hc (by simp [z])) e) (fun b o _ _ hc e _=>⟨o.slots,k b o (fun z=>hc (by simp [z])) e⟩) (fun _ _ _ _ n=>n)
  (fun b o hc e=>⟨o,k b o (fun z=>hc (by simp [z])) e⟩) (fun _ _ e=>e) (fun _ _ _ e=>e) (fun b ps e=>⟨#[],by rw[e];simp⟩) (fun m hm=>?_) (fun b u e=>?_) I.bare
 ·have e:b=it:=by simpa using hb
  subst e
  exact⟨h1,hL,h2,h3⟩
 ·obtain⟨o,es,ep,ho,r⟩:=hm
  exact⟨o,es,ep,k _ o (Ne.symm hL) ho,r⟩
 ·refine(I.jG b u e).cJ (fun c v hc q=>k c v ?_ q) (fun _ q=>q) fun _ _ q=>q
  rcases hc with z | z
  ·rw[z];exact nit b u e
  ·exact nit c _ z
theorem Inv.tok (I:Inv X pins σ H s) (t:Nat):Inv X pins σ H { s with toks:=t }:=I.un (h':=s.heap) (t':=t) Un.refl I.jG
theorem Inv.kept {t':Nat} (I:Inv X pins σ H s) (k:∀b u,s.heap.get? b=some u→h'.get? b=some u):Inv X pins σ H { s with heap:=h',toks:=t' }:=I.un (Un.kept k) (I.jG.kept k)
theorem Inv.laid {a:Addr} {o:HO} {t':Nat} (I:Inv X pins σ H s) (k:∀b u,s.heap.get? b=some u→h'.get? b=some u) (hp:s.heap.objs.size≤a) (new:kr X.prog X.w (upd H a o) h' a o) :
  Inv X pins σ (upd H a o) { s with heap:=h',toks:=t' }:=I.un (Un.laid k hp (I.jG.fresh hp)) (I.jG.laid k hp new)
theorem Inv.write {x e:Addr} {o:HO} {t':Nat} (I:Inv X pins σ H s) (mu:XT (H x)) (he:e=x∨H e=some (.own x)) (k:∀b u,b≠e→s.heap.get? b=some u→h'.get? b=some u) (heo:∃u,h'.get? e=some u)
  (new:kr X.prog X.w (upd H x o) h' x o):Inv X pins σ (upd H x o) { s with heap:=h',toks:=t' }:=I.un (Un.write mu he k heo) (I.jG.write mu he k heo new)
theorem Inv.weak {σ':List (Option V)} (I:Inv X pins σ H s) (hl:σ'.length=σ.length) (w:∀(i:Nat) v,σ'[i]?=some (some v)→σ[i]?=some (some v)):Inv X pins σ' H s:=
 ⟨I.ok,I.os,I.bare,I.base,let ⟨m,hn,hl'⟩:=I.loc;⟨m,hn,fun i x v e1 e2 e3=>hl' i x v e1 (w i v e2) e3⟩,I.cell,I.free,I.yA,I.pin,I.jG,hl.trans I.len⟩
theorem Inv.m5 {pins':List (Addr × Obj)} (I:Inv X pins σ H s) (h:∀p∈pins',s.heap.get? p.1=some p.2∧H p.1=none∧p.1≠X.env.locals∧p.1∉X.fs∧∀v,p.2.data≠.cell v):Inv X pins' σ H s:=
 ⟨I.ok,I.os,I.bare,I.base,I.loc,I.cell,I.free,I.yA,fun p hp=>(List.mem_append.mp hp).elim (fun z=>I.pin p (List.mem_append_left _ z)) (h p),I.jG,I.len⟩
theorem rS {N:List Str} (hN:N.Nodup) {i j:Nat} {x:Str} (a:N[i]?=some x) (b:N[j]?=some x):i=j:=by
 obtain⟨h1,e1⟩:=List.getElem?_eq_some_iff.mp a
 obtain⟨h2,e2⟩:=List.getElem?_eq_some_iff.mp b
 exact(List.getElem_inj hN).mp (e1.trans e2.symm)
theorem oM {M:Model} {A:Around} {E:Value→Shared→Prop} {i:Nat} {x:Str} {v:V} {u:Value} {Q:Unit→Shared→Prop} (I:Inv X pins σ H s) (hN:X.N.Nodup) (hi:X.N[i]?=some x) (hx:Loc X.env.scope x) (r:RelV v u)
  (h:∀s',Inv X pins (σ.set i (some v)) H s'→(∃a,Heap.SameBut a s.heap s'.heap∧(a=X.env.locals∨X.env.cells.lookup x=some a))→Q () s') (hf:X.fn x=true∨X.env.scope.names.lookup x=some .local:=by first | exact .inl rfl | exact .inr rfl | assumption):wpAny M A (storeName X.env x u) Q E s:=by
 obtain⟨m,hn,hl⟩:=id I.loc
 have hcls:(X.env.scope.kind == .class || (X.env.scope.kind == .module && X.env.locals != X.env.globals))=false:=by rw[I.ok.kind];rfl
 have hiσ:i < σ.length:=by rw[I.len];exact(List.getElem?_eq_some_iff.mp hi).1
 have Qt:=I.Qt
 have tracked:∀{a:Addr} {h':Heap},(∃o,s.heap.get? a=some o∧H a=none)→Heap.SameBut a s.heap h'→mZ X.prog X.w H h':=fun {a h'} ha hs b ob e=>by
  obtain⟨_,_,hfree⟩:=ha
  refine(I.jG b ob e).cJ (fun c w' hc q=>(hs.2 c ?_).trans q) (fun _ q=>q) fun _ _ q=>q
  rintro rfl
  rcases hc with rfl | hc
  ·rw[hfree] at e;cases e
  ·rw[hfree] at hc;cases hc
 rcases hx with hk | hk
 ·refine wpAny_storeName_local hk hn (fun h' hn' hs=>?_) hcls
  obtain⟨oL,_,_,hoL,_⟩:=id hn
  refine h _ ⟨I.ok,I.os,I.bare,⟨fun b o e n hb hx=>?_,fun b o e n hb hx=>?_,I.base.free,fun b o e hx=>?_,I.base.lO,I.base.ur,I.base.lS⟩,⟨_,hn',fun j y v' e1 e2 e3=>?_⟩,fun y c e=>?_,I.free,I.yA,fun p hp=>?_,tracked ⟨oL,hoL,I.free⟩ hs,by simpa using I.len⟩ ⟨_,hs,.inl rfl⟩
  ·exact(hs.2 b (Nat.ne_of_lt (Nat.lt_of_lt_of_le (Heap.lt_size e) I.ok.above))).trans (I.base.keep b o e n hb hx)
  ·obtain⟨sl,e1⟩:=I.base.slot b o e n hb hx
   exact⟨sl,(hs.2 b (Nat.ne_of_lt (Nat.lt_of_lt_of_le (Heap.lt_size e) I.ok.above))).trans e1⟩
  ·obtain⟨o',e1⟩:=I.base.there b o e hx
   exact⟨o',(hs.2 b (Nat.ne_of_lt (Nat.lt_of_lt_of_le (Heap.lt_size e) I.ok.above))).trans e1⟩
  ·by_cases hj:j=i
   ·subst hj
    rw[hi] at e1;cases e1
    rw[List.getElem?_set_self hiσ] at e2
    cases e2
    exact⟨u,r,.inl ⟨hk,by simp⟩⟩
   ·rw[List.getElem?_set_ne (Ne.symm hj)] at e2
    obtain⟨u',r',q⟩:=hl j y v' e1 e2 e3
    refine⟨u',r',?_⟩
    rcases q with ⟨k,e⟩ | ⟨k,c,e,z⟩
    ·refine .inl ⟨k,?_⟩
     have:y≠x:=fun e=>hj (rS hN e1 (e▸hi))
     simp [this,e]
    ·exact .inr ⟨k,c,e,z.sameBut hs (Qt y c e)⟩
  ·obtain⟨w',z⟩:=I.cell y c e
   exact⟨w',z.sameBut hs (Qt y c e)⟩
  ·obtain⟨e,n,ne,nf,d⟩:=I.pin p hp
   exact⟨(hs.2 p.1 ne).trans e,n,ne,nf,d⟩
 ·have hfn:X.fn x=true:=by
   rcases hf with z | z
   ·exact z
   ·rw[z] at hk;cases hk
  obtain⟨c,hc⟩:=I.ok.has x (.inl hk)
  obtain⟨w',z⟩:=I.cell x c hc
  refine wpAny_storeName_cell I.ok.kind hk hc z (fun h' hc' hs=>?_)
  obtain⟨oc,hoc,hocd⟩:=id z
  refine h { s with heap:=h' } ⟨I.ok,I.os,I.bare,⟨fun b o e n hb hx=>?_,fun b o e n hb hx=>?_,I.base.free,fun b o e hx=>?_,I.base.lO,I.base.ur,I.base.lS⟩,⟨m,hn.sameBut hs (Ne.symm (Qt x c hc)),fun j y v' e1 e2 e3=>?_⟩,fun y c' e=>?_,I.free,I.yA,fun p hp=>?_,tracked ⟨oc,hoc,I.yA x c hc⟩ hs,by simpa using I.len⟩ ⟨c,hs,.inr hc⟩
  ·exact(hs.2 b (Nat.ne_of_lt (Nat.lt_of_lt_of_le (Heap.lt_size e) (I.ok.JK x c hfn hc)))).trans (I.base.keep b o e n hb hx)
  ·obtain⟨sl,e1⟩:=I.base.slot b o e n hb hx
   exact⟨sl,(hs.2 b (Nat.ne_of_lt (Nat.lt_of_lt_of_le (Heap.lt_size e) (I.ok.JK x c hfn hc)))).trans e1⟩
  ·obtain⟨o',e1⟩:=I.base.there b o e hx
   exact⟨o',(hs.2 b (Nat.ne_of_lt (Nat.lt_of_lt_of_le (Heap.lt_size e) (I.ok.JK x c hfn hc)))).trans e1⟩
  ·by_cases hj:j=i
   ·subst hj
    rw[hi] at e1;cases e1
    rw[List.getElem?_set_self hiσ] at e2
    cases e2
    exact⟨u,r,.inr ⟨.inl hk,c,hc,hc'⟩⟩
   ·rw[List.getElem?_set_ne (Ne.symm hj)] at e2
    obtain⟨u',r',q⟩:=hl j y v' e1 e2 e3
    refine⟨u',r',?_⟩
    rcases q with q | ⟨k,c',e,z'⟩
    ·exact .inl q
    ·refine .inr ⟨k,c',e,z'.sameBut hs ?_⟩
     rintro rfl
     exact hj (rS hN e1 (I.ok.inj _ _ _ e hc▸hi))
  ·by_cases hcc:c'=c
   ·subst hcc;exact⟨_,hc'⟩
   ·obtain⟨w2,z2⟩:=I.cell y c' e
    exact⟨w2,z2.sameBut hs hcc⟩
  ·obtain⟨e,n,ne,nf,d⟩:=I.pin p hp
   refine⟨(hs.2 p.1 ?_).trans e,n,ne,nf,d⟩
   intro q
   rw[q,hoc] at e
   have q':oc=p.2:=Option.some.inj e
   exact d w' (by rw[←q'];exact hocd)
theorem fu {M:Model} {A:Around} {E:Value→Shared→Prop} {i:Nat} {x:Str} {v:V} {u:Value} {Q:Unit→Shared→Prop} (I:Inv X pins σ H s) (hN:X.N.Nodup) (hi:X.N[i]?=some x) (hx:Loc X.env.scope x) (r:RelV v u)
  (h:∀s',Inv X pins (σ.set i (some v)) H s'→Q () s') (hf:X.fn x=true∨X.env.scope.names.lookup x=some .local:=by first | exact .inl rfl | exact .inr rfl | assumption):wpAny M A (storeName X.env x u) Q E s:=
 oM I hN hi hx r (fun s' I' _=>h s' I') hf
theorem Inv.Z1 {s':Shared} {ch:List Addr} (I:Inv X pins σ H s) (ho:s'.os=s.os) (u:Un (o8 X.stack) ch H H' s.heap s'.heap) (jG:mZ X.prog X.w H' s'.heap) (hg:AllBare s'.gens)
  (hch:∀b∈ch,(b∈X.ex∨X.s₀.heap.objs.size≤b)∧b≠X.env.locals∧(∀x c,X.env.cells.lookup x=some c→c≠b)∧∀p∈X.pn ++ pins,p.1≠b):Inv X pins σ H' s':=by
 obtain⟨h',g',d',t',o'⟩:=s'
 have e:o'=s.os:=ho
 subst e
 exact I.call (g':=g') (t':=t') (d':=d') u jG hg hch
end
noncomputable abbrev XK:=Value→Option Addr→Hp→Prop
noncomputable abbrev St:=List (Option V)
noncomputable abbrev VK:=V→Hp→Prop
noncomputable abbrev TE:=St→Hp→VK→Prop
noncomputable abbrev TT:=St→Hp→(Bool→Hp→Prop)→Prop
noncomputable abbrev TA:=St→Hp→(List V→Hp→Prop)→Prop
structure Ends where
 nx:St→Hp→Prop
 rt:VK
 bk:St→Hp→Prop:=fun _ _=>False
 ct:St→Hp→Prop:=fun _ _=>False
noncomputable abbrev TS:=Ends→St→Hp→Prop
noncomputable def EP (X:Cx) (pins:List (Addr × Obj)) (σ:St) (Q:VK) (u:Value) (s':Shared):Prop:=∃v H',Inv X pins σ H' s'∧RelV v u∧Q v H'
noncomputable def TP (X:Cx) (pins:List (Addr × Obj)) (σ:St) (Q:Bool→Hp→Prop) (b:Bool) (s':Shared):Prop:=∃H',Inv X pins σ H' s'∧Q b H'
noncomputable def AP (X:Cx) (pins:List (Addr × Obj)) (σ:St) (Q:List V→Hp→Prop) (us:List Value) (s':Shared):Prop:=∃vs H',Inv X pins σ H' s'∧Vals vs us∧Q vs H'
noncomputable def SP (X:Cx) (pins:List (Addr × Obj)) (D:Ends) (f:Flow) (s':Shared):Prop:=
 match f with
 | .next=>∃σ' H',Inv X pins σ' H' s'∧D.nx σ' H'
 | .brk=>∃σ' H',Inv X pins σ' H' s'∧D.bk σ' H'
 | .cont=>∃σ' H',Inv X pins σ' H' s'∧D.ct σ' H'
 | .ret u=>∃v σ' H',Inv X pins σ' H' s'∧RelV v u∧D.rt v H'
noncomputable def PE (X:Cx) (e:Expr) (t:TE):Prop:=
 ∀(pins:List (Addr × Obj)) (s:Shared) (σ:St) (H:Hp) (Q:VK),Inv X pins σ H s→t σ H Q→wpAny (model X.prog X.w) X.A (eval e X.env) (EP X pins σ Q) X.xe s
noncomputable def PT (X:Cx) (e:Expr) (t:TT):Prop:=
 ∀(pins:List (Addr × Obj)) (s:Shared) (σ:St) (H:Hp) (Q:Bool→Hp→Prop),Inv X pins σ H s→t σ H Q→wpAny (model X.prog X.w) X.A (isTrue e X.env (eval e X.env)) (TP X pins σ Q) X.xe s
noncomputable def PW (X:Cx) (e:Expr) (t:TT):Prop:=
 ∀(whole:Sem Value) (pins:List (Addr × Obj)) (s:Shared) (σ:St) (H:Hp) (Q:Bool→Hp→Prop),Inv X pins σ H s→t σ H Q→wpAny (model X.prog X.w) X.A (isTrue e X.env whole) (TP X pins σ Q) X.xe s
theorem PW.pt {X:Cx} {e:Expr} {t:TT} (h:PW X e t):PT X e t:=h _
noncomputable def PA (X:Cx) (es:List Expr) (t:TA):Prop:=
 ∀(pos:Pos) (pins:List (Addr × Obj)) (s:Shared) (σ:St) (H:Hp) (Q:List V→Hp→Prop),Inv X pins σ H s→t σ H Q→wpAny (model X.prog X.w) X.A (spliced (backTo pos (starEach es X.env))) (AP X pins σ Q) X.xe s
noncomputable def PS (X:Cx) (st:Stmt) (t:TS):Prop:=
 ∀(pins:List (Addr × Obj)) (s:Shared) (σ:St) (H:Hp) (D:Ends),Inv X pins σ H s→t D σ H→wpAny (model X.prog X.w) X.A (exec st X.env) (SP X pins D) X.xe s
noncomputable def sk (X:Cx) (st:List Stmt) (t:TS):Prop:=
 ∀(pins:List (Addr × Obj)) (s:Shared) (σ:St) (H:Hp) (D:Ends),Inv X pins σ H s→t D σ H→wpAny (model X.prog X.w) X.A (execs st X.env) (SP X pins D) X.xe s
theorem xy {α:Type} {t:Sem α} {Q Q':α→Shared→Prop} {M:Model} {A:Around} {E:Value→Shared→Prop} {s:Shared} (h:wpAny M A t Q E s) (hQ:∀a s,Q a s→Q' a s):wpAny M A t Q' E s:=wpAny_mono h hQ fun _ _ x=>x
end L2
namespace L2
open PySem PySem.Spec PyProof.Rows
section
variable {X:Cx}
theorem bin {a b:Expr} {ta tb:TE} (ha:PE X a ta) (hb:PE X b tb) {pins:List (Addr × Obj)} {s:Shared} {σ:St} {H:Hp} {R:V→V→Hp→Prop} (I:Inv X pins σ H s) (h:ta σ H fun x H1=>tb σ H1 fun y H2=>R x y H2)
  {α:Type} {Q:α→Shared→Prop} {f:Value→Value→Sem α}
  (hf:∀v u s2 x y H2,Inv X pins σ H2 s2→RelV x v→RelV y u→R x y H2→wpAny (model X.prog X.w) X.A (f v u) Q X.xe s2) :
  wpAny (model X.prog X.w) X.A (eval a X.env) (fun v s₁=>wpAny (model X.prog X.w) X.A (eval b X.env) (fun u s₂=>wpAny (model X.prog X.w) X.A (f v u) Q X.xe s₂) X.xe s₁) X.xe s:=by
 refine xy (ha pins s σ H _ I h) fun v s1 ⟨x,H1,I1,r1,q1⟩=>?_
 refine xy (hb pins s1 σ H1 _ I1 q1) fun u s2 ⟨y,H2,I2,r2,q2⟩=>?_
 exact hf v u s2 x y H2 I2 r1 r2 q2
noncomputable def XH (i:Nat):TE:=fun σ H Q=>∃v,σ[i]?=some (some v)∧Q v H
noncomputable def tC (v:V):TE:=fun _ H Q=>Q v H
theorem Q1 {i:Nat} {x:Str} {pos:Pos} (hN:X.N[i]?=some x) (hv:Kw X.env.scope x) (hd:(x == ("__debug__" : Str))=false:=by decide) (hcd:(x == ("__classdict__" : Str))=false:=by decide):PE X (.Name x pos) (XH i):=by
 intro pins s σ H Q I h
 obtain⟨v,e,h⟩:=h
 obtain⟨m,hn,hl⟩:=I.loc
 obtain⟨u,r,l⟩:=hl i x v hN e hv
 have fin:EP X pins σ Q u s:=⟨v,H,I,r,h⟩
 rcases l with ⟨hk,hm⟩ | ⟨hk,c,hc,hcell⟩
 ·exact wpAny_Name (wpAny_loadName_local I.ok.kind hk hn hm fin) hd
 ·rcases hk with hk | hk
  ·exact wpAny_Name (wpAny_loadName_cell I.ok.kind hk hc hcell fin) hd
  ·exact wpAny_Name (wpAny_loadName_free I.ok.kind hk hc hcell fin hcd) hd
theorem z3 {i j pos}:PE X (.Constant (.int i) j pos) (tC (.int i)):=fun _ _ _ H _ I h=>wpAny_Constant_int ⟨.int i,H,I.tok _,⟨_,rfl⟩,h⟩
theorem gz {b j pos}:PE X (.Constant (.bool b) j pos) (tC (.bl b)):=fun _ _ _ H _ I h=>Constant_bool ⟨.bl b,H,I,rfl,h⟩
theorem uG {j pos}:PE X (.Constant .none j pos) (tC .non):=fun _ _ _ H _ I h=>Constant_none ⟨.non,H,I,rfl,h⟩
theorem z8 {x j pos}:PE X (.Constant (.str x) j pos) (tC (.str x)):=fun _ _ _ H _ I h=>Calls.Constant_str ⟨.str x,H,I.tok _,⟨_,rfl⟩,h⟩
noncomputable def Gl (X:Cx) (x:Str):Prop:=X.env.kindOf x=some .globalImplicit
theorem mL {E:Value→Shared→Prop} {pins:List (Addr × Obj)} {s:Shared} {σ:St} {H:Hp} {x:Str} {u:Value} {pos:Pos} {Q:Value→Shared→Prop} (I:Inv X pins σ H s) (hg:Gl X x) (hm:X.mg x=some u) (h:Q u s)
  (hd:(x == ("__debug__" : Str))=false:=by decide):wpAny (model X.prog X.w) X.A (eval (.Name x pos) X.env) Q E s:=
 Calls.Name_function_global I.ok.kind hg (Calls.loadGlobal_global (by rw[I.ok.glob];exact I.mod.glob.keeps I.bk) hm h) hd
theorem fP {E:Value→Shared→Prop} {pins:List (Addr × Obj)} {s:Shared} {σ:St} {H:Hp} {x:Str} {u:Value} {pos:Pos} {Q:Value→Shared→Prop} (I:Inv X pins σ H s) (hg:Gl X x) (hm:X.mg x=none) (hv:bootBuiltins x=some u) (h:Q u s)
  (hn:x≠"__name__":=by decide) (hd:(x == ("__debug__" : Str))=false:=by decide):wpAny (model X.prog X.w) X.A (eval (.Name x pos) X.env) Q E s:=by
 obtain⟨mb,h1,h2⟩:=I.mod.blt
 exact Calls.Name_function_global I.ok.kind hg (Calls.loadGlobal_builtin (by rw[I.ok.glob];exact I.mod.glob.keeps I.bk) hm (by rw[I.ok.blt];exact h1.keeps I.bk) ((h2 x hn).trans hv) h) hd
theorem wY {x:Str} {v:V} {u:Value} {pos:Pos} (hg:Gl X x) (hm:X.mg x=some u) (r:RelV v u) (hd:(x == ("__debug__" : Str))=false:=by decide):PE X (.Name x pos) (tC v):=
 fun _ _ _ H _ I h=>mL I hg hm ⟨v,H,I,r,h⟩ hd
theorem yL {x:Str} {v:V} {u:Value} {pos:Pos} (hg:Gl X x) (hm:X.mg x=none) (hv:bootBuiltins x=some u) (r:RelV v u) (hn:x≠"__name__":=by decide) (hd:(x == ("__debug__" : Str))=false:=by decide):PE X (.Name x pos) (tC v):=
 fun _ _ _ H _ I h=>fP I hg hm hv ⟨v,H,I,r,h⟩ hn hd
noncomputable def X5 (ta tb:TE) (k:Int→Int→Hp→Prop):St→Hp→Prop:=fun σ H=>ta σ H fun x H1=>tb σ H1 fun y H2=>∃i j,x=.int i∧y=.int j∧k i j H2
noncomputable def WZ (ta tb:TE):TE:=fun σ H Q=>X5 ta tb (fun i j H2=>Q (.int (i + j)) H2) σ H
noncomputable def WU (ta tb:TE):TE:=fun σ H Q=>X5 ta tb (fun i j H2=>Q (.int (i - j)) H2) σ H
noncomputable def WY (ta tb:TE):TE:=fun σ H Q=>X5 ta tb (fun i j H2=>(-(2 ^ 64) < i∧i < 2 ^ 64)∧Q (.int (i * j)) H2) σ H
variable {a b:Expr} {ta tb:TE} {pos:Pos}
noncomputable def PC (X:Cx) (op:CmpOp) (a b:Expr) (t:TE):Prop:=
 ∀(pins:List (Addr × Obj)) (s:Shared) (σ:St) (H:Hp) (Q:VK),Inv X pins σ H s→t σ H Q→
  wpAny (model X.prog X.w) X.A (eval a X.env) (fun v s₁=>wpAny (model X.prog X.w) X.A (eval b X.env) (fun u s₂=>wpAny (model X.prog X.w) X.A (compareOp op v u) (EP X pins σ Q) X.xe s₂) X.xe s₁) X.xe s
noncomputable def oU (p:Int→Int→Bool) (ta tb:TE):TE:=fun σ H Q=>X5 ta tb (fun i j H2=>Q (.bl (p i j)) H2) σ H
noncomputable abbrev Yg:TE→TE→TE:=oU fun i j=>decide (i < j)
noncomputable abbrev Yy:TE→TE→TE:=oU fun i j=>decide (i≤j)
noncomputable abbrev Yv:TE→TE→TE:=oU fun i j=>decide (j < i)
noncomputable abbrev Yk:TE→TE→TE:=oU fun i j=>decide (j≤i)
noncomputable abbrev WV:TE→TE→TE:=oU fun i j=>decide (i=j)
noncomputable abbrev WG:TE→TE→TE:=oU fun i j=>!decide (i=j)
noncomputable def WW (ta:TE):TE:=fun σ H Q=>ta σ H fun x H1=>Q (.bl (decide (x=.non))) H1
noncomputable def VU (ta:TE):TE:=fun σ H Q=>ta σ H fun x H1=>Q (.bl (!decide (x=.non))) H1
noncomputable def tB (t:TE):TT:=fun σ H Q=>t σ H fun x H1=>∃c,x=.bl c∧Q c H1
theorem KJ {op:CmpOp} {t:TE} (h:PC X op a b t) (h1:behindInMarks op b=false:=by first | exact nobehind _ (by decide) (by decide) | rfl):PT X (.Compare a [op] [b] pos) (tB t):=by
 intro pins s σ H Q I hw
 refine wpAny_isTrue_Compare1 (xy (h pins s σ H _ I hw) fun v s1 h1=>xy h1 fun u s2 h2=>xy h2 fun c s3 ⟨x,H1,I1,r1,q1⟩=>?_) h1
 obtain⟨d,rfl,q⟩:=q1
 cases r1
 exact wpAny_truthy_bool ⟨H1,I1,q⟩
theorem xV {e:Expr} {t:TE} (h:PE X e t) (he:∀whole,isTrue e X.env whole=(do let v ←whole;standAt e.pos;holding [v] (truthy v)):=by intro _;rfl):PT X e (tB t):=by
 intro pins s σ H Q I hw
 refine isTrue_plain (xy (h pins s σ H _ I hw) fun v s1 ⟨x,H1,I1,r1,q1⟩=>?_) (he _)
 obtain⟨d,rfl,q⟩:=q1
 cases r1
 exact wpAny_truthy_bool ⟨H1,I1,q⟩
variable {tA tB':TT} {rest:List Expr}
noncomputable def KN (t u:TT):TT:=fun σ H Q=>t σ H fun c H1=>if c=true then u σ H1 Q else Q false H1
noncomputable def WH (t u:TT):TT:=fun σ H Q=>t σ H fun c H1=>if c=true then Q true H1 else u σ H1 Q
noncomputable def Vk (t:TT):TT:=fun σ H Q=>t σ H fun c H1=>Q (!c) H1
theorem ff (ha:PT X a tA):PW X (.BoolOp .And [a] pos) tA:=by
 intro wh pins s σ H Q I h
 refine isTrue_and (xy (ha pins s σ H Q I h) fun c s1 e=>?_)
 cases c with
 | true=>exact isTrue_and_nil e
 | false=>exact e
theorem yq (ha:PT X a tA):PW X (.BoolOp .Or [a] pos) tA:=by
 intro wh pins s σ H Q I h
 refine isTrue_or (xy (ha pins s σ H Q I h) fun c s1 e=>?_)
 cases c with
 | false=>exact isTrue_or_nil e
 | true=>exact e
theorem dA (ha:PT X a tA) (hb:PW X (.BoolOp .And (b :: rest) pos) tB'):PW X (.BoolOp .And (a :: b :: rest) pos) (KN tA tB'):=by
 intro wh pins s σ H Q I h
 refine isTrue_and (xy (ha pins s σ H _ I h) fun c s1 ⟨H1,I1,q1⟩=>?_)
 cases c with
 | true=>exact hb wh pins s1 σ H1 Q I1 q1
 | false=>exact⟨H1,I1,q1⟩
theorem bP (ha:PT X a tA) (hb:PW X (.BoolOp .Or (b :: rest) pos) tB'):PW X (.BoolOp .Or (a :: b :: rest) pos) (WH tA tB'):=by
 intro wh pins s σ H Q I h
 refine isTrue_or (xy (ha pins s σ H _ I h) fun c s1 ⟨H1,I1,q1⟩=>?_)
 cases c with
 | true=>exact⟨H1,I1,q1⟩
 | false=>exact hb wh pins s1 σ H1 Q I1 q1
theorem yz (ha:PT X a tA):PT X (.UnaryOp .Not a pos) (Vk tA):=by
 intro pins s σ H Q I h
 exact isTrue_not (ha pins s σ H (fun c H1=>Q (!c) H1) I h)
noncomputable def Xo (ta tb:TE):TE:=fun σ H Q=>ta σ H fun x H1=>∃c,x=.bl c∧if c=true then tb σ H1 Q else Q (.bl false) H1
noncomputable def WB (ta tb:TE):TE:=fun σ H Q=>ta σ H fun x H1=>∃c,x=.bl c∧if c=true then Q (.bl true) H1 else tb σ H1 Q
noncomputable def XW (ta:TE):TE:=fun σ H Q=>ta σ H fun x H1=>∃c,x=.bl c∧Q (.bl (!c)) H1
theorem QA {op} {t:TE} (h:PE X a t):PE X (.BoolOp op [a] pos) t:=fun pins s σ H Q I hw=>BoolOp_one (h pins s σ H Q I hw)
theorem tw (ha:PE X a ta) (hb:PE X (.BoolOp .And (b :: rest) pos) tb):PE X (.BoolOp .And (a :: b :: rest) pos) (Xo ta tb):=by
 intro pins s σ H Q I h
 refine BoolOp_and (xy (ha pins s σ H _ I h) fun v s1 ⟨x,H1,I1,r1,q1⟩=>?_)
 obtain⟨c,rfl,q1⟩:=q1
 cases r1
 refine wpAny_truthy_bool ?_
 cases c with
 | true=>exact hb pins s1 σ H1 Q I1 q1
 | false=>exact⟨.bl false,H1,I1,rfl,q1⟩
theorem QE (ha:PE X a ta):PE X (.UnaryOp .Not a pos) (XW ta):=by
 intro pins s σ H Q I h
 refine UnaryOp_ (xy (ha pins s σ H _ I h) fun v s1 ⟨x,H1,I1,r1,q1⟩=>?_)
 obtain⟨c,rfl,q1⟩:=q1
 cases r1
 exact not_of (wpAny_truthy_bool ⟨.bl (!c),H1,I1,rfl,q1⟩)
noncomputable def Yw (t:TT) (ta tb:TE):TE:=fun σ H Q=>t σ H fun c H1=>if c=true then ta σ H1 Q else tb σ H1 Q
end
end L2
namespace L2
open PySem PySem.Spec PyProof.Rows
noncomputable def qC (K:PySem.W.Frag) (H:Hp) (a:Addr) (xs:List V):Prop:=
 Rd H a (.lst xs)∨
  ∃(o:Obj) (its:Array Value) (n:Nat),K.lookup a=some o∧o.cls=.type "list"∧o.dict=none∧o.data=.seq its n∧its.size≤sizeLine∧Vals xs its.toList
noncomputable def kU (K:PySem.W.Frag) (H:Hp) (a:Addr) (xs:List V):Prop:=
 Rd H a (.tup xs)∨
  ∃(o:Obj) (its:Array Value) (n:Nat),K.lookup a=some o∧o.cls=.type "tuple"∧o.data=.seq its n∧its.size≤sizeLine∧Vals xs its.toList
noncomputable def Ky:Value→Option V
 | .none=>some .non
 | .bool b=>some (.bl b)
 | .int i _=>some (.int i)
 | .str x _=>some (.str x)
 | .bytes b _=>some (.byt b)
 | .float b _=>some (.flt b)
 | .ref a=>some (.ref a)
 | .type n=>some (.ty n)
 | _=>none
theorem RelV.abs {x:V} {u:Value} (r:RelV x u):Ky u=some x:=by
 cases x with
 | non=>cases r;rfl
 | bl _=>cases r;rfl
 | int _=>obtain⟨t,rfl⟩:=r;rfl
 | str _=>obtain⟨t,rfl⟩:=r;rfl
 | byt _=>obtain⟨t,rfl⟩:=r;rfl
 | flt _=>obtain⟨t,rfl⟩:=r;rfl
 | ref _=>cases r;rfl
 | ty _=>cases r;rfl
theorem RelV.inj {x y:V} {u:Value} (r:RelV x u) (q:RelV y u):x=y:=Option.some.inj (r.abs.symm.trans q.abs)
theorem Vals.inj:∀{xs ys:List V} {us:List Value},Vals xs us→Vals ys us→xs=ys
 | _,_,_,.nil,.nil=>rfl
 | _,_,_,.cons r t,.cons r' t'=>by rw[r.inj r',Vals.inj t t']
section
variable {X:Cx} {pins:List (Addr × Obj)} {σ:St} {H:Hp} {s:Shared} {a:Addr} {xs ys:List V}
theorem qC.of {K:PySem.W.Frag} (h:H a=some (.lst xs)):qC K H a xs:=.inl (.inl h)
theorem kU.of {K:PySem.W.Frag} (h:H a=some (.tup xs)):kU K H a xs:=.inl (.inl h)
theorem Inv.list (I:Inv X pins σ H s) (h:qC X.K H a xs):∃its:List Value,Vals xs its∧PlainL s.heap a its.toArray∧xs.length≤sizeLine:=by
 rcases h with h | ⟨o,its,n,hk,hc,hd,hs,hz,r⟩
 ·obtain⟨z,its,n,r,e⟩:=h.ok I.jG
  exact⟨its,r,⟨_,n,e,rfl,rfl,rfl⟩,z⟩
 ·refine⟨its.toList,r,⟨o,n,I.fe a o hk,hc,hd,by simpa using hs⟩,?_⟩
  have e:=r.length
  simp only[Array.length_toList] at e
  omega
theorem Inv.tuple (I:Inv X pins σ H s) (h:kU X.K H a xs):∃its:List Value,Vals xs its∧IsTup s.heap a its.toArray∧xs.length≤sizeLine:=by
 rcases h with h | ⟨o,its,n,hk,hc,hs,hz,r⟩
 ·obtain⟨z,its,r,p⟩:=h.ok I.jG
  exact⟨its,r,p,z⟩
 ·refine⟨its.toList,r,⟨o,I.fe a o hk,hc,n,by simpa using hs⟩,?_⟩
  have e:=r.length
  simp only[Array.length_toList] at e
  omega
theorem Inv.dJ (I:Inv X pins σ H s) (h:qC X.K H a xs) (h':qC X.K H a ys):xs=ys:=by
 obtain⟨its,r,⟨o,n,e,_,_,d⟩,_⟩:=I.list h
 obtain⟨its',r',⟨o',n',e',_,_,d'⟩,_⟩:=I.list h'
 rw[e] at e';cases e'
 rw[d] at d'
 injection d' with d1 _
 have:its=its':=by simpa using congrArg Array.toList d1
 subst this
 exact r.inj r'
end
noncomputable abbrev Cx.cX (X:Cx) (E:Value→Shared→Prop):Cx:={ X with xe:=E }
noncomputable abbrev Cx.XA (X:Cx):Cx:=X.cX fun _ _=>False
theorem Cx.Ok.cX {X:Cx} (ok:X.Ok) (E:Value→Shared→Prop):(X.cX E).Ok:=
 ⟨ok.mod,ok.kind,ok.glob,ok.blt,ok.above,ok.inj,ok.has,ok.JK,ok.hd,ok.frames,ok.X4,ok.Jp,ok.bs,ok.oA,ok.ot,ok.nN,ok.mJ,ok.QZ⟩
theorem Cx.Ok.gC {X:Cx} {E:Value→Shared→Prop} (ok:(X.cX E).Ok):X.Ok:=
 ⟨ok.mod,ok.kind,ok.glob,ok.blt,ok.above,ok.inj,ok.has,ok.JK,ok.hd,ok.frames,ok.X4,ok.Jp,ok.bs,ok.oA,ok.ot,ok.nN,ok.mJ,ok.QZ⟩
section
variable {X:Cx} {pins:List (Addr × Obj)} {σ:St} {H:Hp} {s:Shared} {E:Value→Shared→Prop}
theorem Inv.cX (I:Inv X pins σ H s) (E:Value→Shared→Prop):Inv (X.cX E) pins σ H s:=⟨I.ok.cX E,I.os,I.bare,I.base,I.loc,I.cell,I.free,I.yA,I.pin,I.jG,I.len⟩
theorem Inv.gC (I:Inv (X.cX E) pins σ H s):Inv X pins σ H s:=⟨I.ok.gC,I.os,I.bare,I.base,I.loc,I.cell,I.free,I.yA,I.pin,I.jG,I.len⟩
theorem SP.gC {D:Ends} {f:Flow} {s':Shared} (h:SP (X.cX E) pins D f s'):SP X pins D f s':=by
 cases f with
 | next=>obtain⟨σ',H',I,q⟩:=h;exact⟨σ',H',I.gC,q⟩
 | brk=>obtain⟨σ',H',I,q⟩:=h;exact⟨σ',H',I.gC,q⟩
 | cont=>obtain⟨σ',H',I,q⟩:=h;exact⟨σ',H',I.gC,q⟩
 | ret u=>obtain⟨v,σ',H',I,r,q⟩:=h;exact⟨v,σ',H',I.gC,r,q⟩
theorem sk.XA {st:List Stmt} {t:TS} (h:sk X.XA st t):sk X st t:=fun pins s σ H D I hw=>
 wpAny_mono (h pins s σ H D (I.cX _) hw) (fun _ _ q=>q.gC) fun _ _ z=>False.elim z
end
section
variable {X:Cx} {st:Stmt} {rest:List Stmt} {t u:TS} {e:Expr} {te:TE} {pos:Pos}
noncomputable def XJ:TS:=fun D σ H=>D.nx σ H
noncomputable def Vy (t u:TS):TS:=fun D σ H=>t { D with nx:=u D } σ H
theorem qo:sk X [] XJ:=fun _ _ σ H _ I h=>wpAny_execs_nil ⟨σ,H,I,h⟩
theorem z4 (h1:PS X st t) (h2:sk X rest u):sk X (st :: rest) (Vy t u):=by
 intro pins s σ H D I h
 refine wpAny_execs_cons (xy (h1 pins s σ H { D with nx:=u D } I h) fun f s1 q=>?_)
 cases f with
 | next=>
  obtain⟨σ',H',I',q⟩:=q
  exact h2 pins s1 σ' H' D I' q
 | ret v=>exact q
 | brk=>exact q
 | cont=>exact q
theorem z7 (h1:PS X st t):sk X [st] t:=by
 intro pins s σ H D I h
 refine wpAny_execs_cons (xy (h1 pins s σ H D I h) fun f s1 q=>?_)
 cases f with
 | next=>exact wpAny_execs_nil q
 | ret v=>exact q
 | brk=>exact q
 | cont=>exact q
noncomputable def KI:TS:=fun D σ H=>D.bk σ H
noncomputable def VF:TS:=fun D σ H=>D.ct σ H
theorem Inv.quiet {pins:List (Addr × Obj)} {σ:St} {H:Hp} {s:Shared} (I:Inv X pins σ H s):interactive X.env=false:=by simp [interactive,I.ok.kind]
noncomputable def Xa (te:TE):TS:=fun D σ H=>te σ H fun _ H1=>D.nx σ H1
theorem jf (he:PE X e te) (hs:swapsWith e none pos.line X.env=pure false:=by rfl):PS X (.Expr e pos) (Xa te):=by
 intro pins s σ H D I h
 exact wpAny_Expr_any (xy (he pins s σ H _ I h) fun v s1 ⟨x,H1,I1,r1,q1⟩=>⟨σ,H1,I1,q1⟩) I.quiet hs
noncomputable def Vw (te:TE):TS:=fun D σ H=>te σ H D.rt
theorem qr (he:PE X e te):PS X (.Return (some e) pos) (Vw te):=by
 intro pins s σ H D I h
 exact wpAny_Return_some (xy (he pins s σ H _ I h) fun v s1 ⟨x,H1,I1,r1,q1⟩=>⟨x,σ,H1,I1,r1,q1⟩)
noncomputable def VR:TS:=fun D _ H=>D.rt .non H
noncomputable def K9 (c:TT) (t u:TS):TS:=fun D σ H=>c σ H fun b H1=>if b=true then t D σ H1 else u D σ H1
theorem qN {c:Expr} {a b:List Stmt} {tc:TT} (hc:PT X c tc) (ha:sk X a t) (hb:sk X b u):PS X (.If c a b pos) (K9 tc t u):=by
 intro pins s σ H D I h
 refine wpAny_If (xy (hc pins s σ H _ I h) fun d s1 ⟨H1,I1,q1⟩=>?_)
 cases d with
 | true=>exact ha pins s1 σ H1 D I1 q1
 | false=>exact hb pins s1 σ H1 D I1 q1
noncomputable def Vx:TS:=fun _ _ _=>False
end
noncomputable abbrev TG:=V→St→Hp→(St→Hp→Prop)→Prop
noncomputable abbrev ZI:=List V→St→Hp→(St→Hp→Prop)→Prop
noncomputable def PG (X:Cx) (target:Expr) (t:TG):Prop:=
 ∀(pins:List (Addr × Obj)) (s:Shared) (σ:St) (H:Hp) (v:V) (u:Value) (Q:St→Hp→Prop),Inv X pins σ H s→RelV v u→t v σ H Q→
  wpAny (model X.prog X.w) X.A (assign target X.env u) (fun _ s'=>∃σ' H',Inv X pins σ' H' s'∧Q σ' H') X.xe s
noncomputable def Jg (X:Cx) (ts:List Expr) (t:ZI):Prop:=
 ∀(pins:List (Addr × Obj)) (s:Shared) (σ:St) (H:Hp) (vs:List V) (us:List Value) (Q:St→Hp→Prop),Inv X pins σ H s→Vals vs us→t vs σ H Q→
  wpAny (model X.prog X.w) X.A (assignInOrder ((assignEach ts X.env).map (·.2)) us) (fun _ s'=>∃σ' H',Inv X pins σ' H' s'∧Q σ' H') X.xe s
noncomputable abbrev aT:=V→V→V→Hp→(Hp→Prop)→Prop
noncomputable def Qf (X:Cx) (t:aT):Prop:=
 ∀(pins:List (Addr × Obj)) (s:Shared) (σ:St) (H:Hp) (o i v:V) (ov iv u:Value) (Q:Hp→Prop),Inv X pins σ H s→RelV o ov→RelV i iv→RelV v u→t o i v H Q→
  wpAny (model X.prog X.w) X.A (setItem ov iv u) (fun _ s'=>∃H',Inv X pins σ H' s'∧Q H') X.xe s
noncomputable abbrev XO:=V→V→Hp→VK→Prop
noncomputable def WE (X:Cx) (op:Operator) (t:XO):Prop:=
 ∀(pins:List (Addr × Obj)) (s:Shared) (σ:St) (H:Hp) (x y:V) (v u:Value) (Q:VK),Inv X pins σ H s→RelV x v→RelV y u→t x y H Q→
  wpAny (model X.prog X.w) X.A (inplaceOp op v u) (EP X pins σ Q) X.xe s
section
variable {X:Cx} {pos:Pos}
noncomputable def kY (i:Nat):TG:=fun v σ H Q=>Q (σ.set i (some v)) H
theorem jn {i:Nat} {x:Str} (hN:X.N.Nodup) (hi:X.N[i]?=some x) (hx:Loc X.env.scope x) (hf:X.fn x=true∨X.env.scope.names.lookup x=some .local:=by first | exact .inl rfl | exact .inr rfl | assumption):PG X (.Name x pos) (kY i):=by
 intro pins s σ H v u Q I r h
 exact wpAny_assign_Name (fu I hN hi hx r (fun s' I'=>⟨_,H,I',h⟩) hf)
noncomputable def Kf:ZI:=fun vs σ H Q=>vs=[]∧Q σ H
noncomputable def JL (t:TG) (u:ZI):ZI:=fun vs σ H Q=>∃v r,vs=v :: r∧t v σ H fun σ' H'=>u r σ' H' Q
theorem nJ:Jg X [] Kf:=by
 intro pins s σ H vs us Q I r h
 obtain⟨e,h⟩:=h
 subst e
 cases r
 exact assignInOrder_nil ⟨σ,H,I,h⟩
theorem gB {e:Expr} {es:List Expr} {t:TG} {u:ZI} (h1:PG X e t) (h2:Jg X es u)
  (hs:(assignEach (e :: es) X.env).map (·.2)=assign e X.env :: (assignEach es X.env).map (·.2):=by rfl):Jg X (e :: es) (JL t u):=by
 intro pins s σ H vs us Q I r h
 obtain⟨v,vr,e1,h⟩:=h
 subst e1
 cases r with
 | cons r rr=>
  rw[hs]
  refine assignInOrder_cons (xy (h1 pins s σ H _ _ _ I r h) fun _ s1 ⟨σ1,H1,I1,q1⟩=>?_)
  exact h2 pins s1 σ1 H1 _ _ Q I1 rr q1
noncomputable def JS (K:PySem.W.Frag) (n:Nat) (t:ZI):TG:=fun v σ H Q=>∃a xs,v=.ref a∧kU K H a xs∧xs.length=n∧t xs σ H Q
theorem Q3 {es:List Expr} {k:Nat} {t:ZI} {n:Nat} (hc:X.calm=true) (h:Jg X es t)
  (hn:(assignEach es X.env).length=n:=by rfl) (hst:(assignEach es X.env).findIdx? (·.1)=none:=by rfl):PG X (.Tuple es k pos) (JS X.K n t):=by
 intro pins s σ H v u Q I r hw
 obtain⟨a,xs,e1,hq,hl,hw⟩:=hw
 subst e1
 cases r
 obtain⟨its,rv,ht,hz⟩:=I.tuple hq
 refine assign_Tuple_tuple (I.ok.hd hc) ht (by simp [hn,←hl,rv.length]) hst fun h' hx=>?_
 have I1:Inv X pins σ H { s with heap:=h' }:=I.kept (t':=s.toks) fun b o e=>hx b o (Nat.ne_of_lt (Heap.lt_size e)) e
 exact h pins _ σ H xs _ Q I1 (by simpa using rv) hw
noncomputable def Km (to ti:TE) (t:aT):TG:=fun v σ H Q=>to σ H fun o H1=>ti σ H1 fun i H2=>t o i v H2 fun H3=>Q σ H3
theorem Q2 {o i:Expr} {to ti:TE} {t:aT} (ho:PE X o to) (hi:PE X i ti) (hs:Qf X t)
  (ha:∀v,assign (.Subscript o i pos) X.env v=(do
   let ov ←holding [v] (eval o X.env)
   let iv ←holding [v,ov] (eval i X.env)
   standAt pos
   holding [v,ov,iv] (setItem ov iv v)
   release [v,ov,iv] []):=by intro _;rfl):PG X (.Subscript o i pos) (Km to ti t):=by
 intro pins s σ H v u Q I r h
 rw[ha]
 refine wpAny_bind (wpAny_holding (xy (ho pins s σ H _ I h) fun ov s1 ⟨x,H1,I1,r1,q1⟩=>?_))
 refine wpAny_bind (wpAny_holding (xy (hi pins s1 σ H1 _ I1 q1) fun iv s2 ⟨y,H2,I2,r2,q2⟩=>?_))
 refine wpAny_bind (wpAny_standAt (wpAny_bind (wpAny_holding (xy (hs pins s2 σ H2 x y v ov iv u _ I2 r1 r2 r q2) fun _ s3 ⟨H3,I3,q3⟩=>?_))))
 exact wpAny_release ⟨σ,H3,I3,q3⟩
noncomputable def ZU (te:TE) (g:TG):TS:=fun D σ H=>te σ H fun x H1=>g x σ H1 D.nx
theorem eY {tg e:Expr} {te:TE} {g:TG} (he:PE X e te) (hg:PG X tg g) (hs:swapsWithSole [tg] e pos.line X.env=pure false:=by rfl) (hw:swappedStores [tg] e X.env=pure none:=by rfl)
  (h1:(assignEach [tg] X.env).map (·.2)=[assign tg X.env]:=by rfl):PS X (.Assign [tg] e pos) (ZU te g):=by
 intro pins s σ H D I h
 refine wpAny_Assign_stores (xy (he pins s σ H _ I h) fun v s1 ⟨x,H1,I1,r1,q1⟩=>?_) hs hw
 rw[h1]
 exact xy (hg pins s1 σ H1 x v _ I1 r1 q1) fun _ s2 q=>q
theorem ql {i:Nat} {x:Str} {e:Expr} {te:TE} {pos':Pos} (hN:X.N.Nodup) (hi:X.N[i]?=some x) (hx:Loc X.env.scope x) (he:PE X e te) (hs:swapsWith e (some (.Name x pos')) pos.line X.env=pure false:=by rfl) (hf:X.fn x=true∨X.env.scope.names.lookup x=some .local:=by first | exact .inl rfl | exact .inr rfl | assumption) :
  PS X (.Assign [.Name x pos'] e pos) (ZU te (kY i)):=by
 intro pins s σ H D I h
 refine wpAny_Assign_Name (xy (he pins s σ H _ I h) fun v s1 ⟨y,H1,I1,r1,q1⟩=>?_) hs
 exact fu I1 hN hi hx r1 (fun s2 I2=>⟨_,H1,I2,q1⟩) hf
noncomputable def WM (i j:Nat) (ta:TA):TS:=fun D σ H=>ta σ H fun vs H1=>∃v w,vs=[v,w]∧D.nx ((σ.set i (some v)).set j (some w)) H1
noncomputable def WQ (i:Nat) (te:TE) (ti:XO):TS:=fun D σ H=>∃x,σ[i]?=some (some x)∧te σ H fun y H1=>ti x y H1 fun z H2=>D.nx (σ.set i (some z)) H2
noncomputable def VB (to ti te:TE) (tget:V→V→Hp→VK→Prop) (tip:XO) (tset:aT):TS:=fun D σ H=>to σ H fun o H1=>ti σ H1 fun i H2=>tget o i H2 fun x H3=>te σ H3 fun y H4=>tip x y H4 fun z H5=>tset o i z H5 fun H6=>D.nx σ H6
noncomputable def V6 (X:Cx) (t:V→V→Hp→VK→Prop):Prop:=
 ∀(pins:List (Addr × Obj)) (s:Shared) (σ:St) (H:Hp) (o i:V) (ov iv:Value) (Q:VK),Inv X pins σ H s→RelV o ov→RelV i iv→t o i H Q→
  wpAny (model X.prog X.w) X.A (getItem ov iv) (EP X pins σ Q) X.xe s
noncomputable def W4 (f:Int→Int→Int):XO:=fun x y H Q=>∃i j,x=.int i∧y=.int j∧Q (.int (f i j)) H
end
section
variable {X:Cx} {pos:Pos}
noncomputable def Jq (c:TT) (tb:TS):TS:=fun D σ H=>∃W:Nat→St→Hp→Prop,(∃m,W m σ H)∧∀m σ H,W m σ H→
 c σ H fun b H1=>if b=true then ∃N:St→Hp→Prop,(∀σ' H',N σ' H'→∃m',m' < m∧W m' σ' H')∧tb { D with nx:=N,ct:=N,bk:=D.nx } σ H1 else D.nx σ H1
theorem eP {c:Expr} {body:List Stmt} {tc:TT} {tb:TS} (hp:PassesOwn (model X.prog X.w) X.A X.env X.xe) (hc:PT X c tc) (hb:sk X body tb):PS X (.While c body [] pos) (Jq tc tb):=by
 intro pins s σ H D I h
 obtain⟨W,⟨m0,w0⟩,turn⟩:=h
 refine wpAny_While (codeAny_whileLoop (fun n s'=>∃σ' H',Inv X pins σ' H' s'∧W n σ' H') ?_ m0 ⟨σ,H,I,w0⟩)
 rintro n s1 ⟨σ1,H1,I1,w1⟩
 refine wpAny_passesOwn hp (xy (hc pins s1 σ1 H1 _ I1 (turn n σ1 H1 w1)) fun b s2 ⟨H2,I2,q2⟩=>?_)
 cases b with
 | true=>
  obtain⟨N,hN,q2⟩:=q2
  rw[if_pos rfl]
  refine wpAny_passesOwn hp (xy (hb pins s2 σ1 H2 _ I2 q2) fun f s3 q3=>?_)
  cases f with
  | next=>
   obtain⟨σ3,H3,I3,n3⟩:=q3
   obtain⟨m',hm,w3⟩:=hN σ3 H3 n3
   exact⟨m',hm,σ3,H3,I3,w3⟩
  | cont=>
   obtain⟨σ3,H3,I3,n3⟩:=q3
   obtain⟨m',hm,w3⟩:=hN σ3 H3 n3
   exact⟨m',hm,σ3,H3,I3,w3⟩
  | brk=>exact q3
  | ret v=>exact q3
 | false=>
  rw[if_neg Bool.false_ne_true]
  exact wpAny_execs_nil ⟨σ1,H2,I2,q2⟩
end
structure It where
 go:Nat→Hp→Prop
 aD:Nat→Hp→V→Hp→Prop
 stop:Nat→Hp→Prop
noncomputable def wD (X:Cx) (pins:List (Addr × Obj)) (H:Hp) (b:Addr):Prop:=
 H b=none∧b≠X.env.locals∧b∉X.fs∧(b∈X.ex∨X.s₀.heap.objs.size≤b)∧(∀x c,X.env.cells.lookup x=some c→c≠b)∧∀p∈X.pn ++ pins,p.1≠b
theorem Inv.iR {X:Cx} {pins:List (Addr × Obj)} {σ:St} {H H':Hp} {s:Shared} {b:Addr} (I:Inv X pins σ H s) (hb:s.heap.objs.size≤b) (hn:H' b=none):wD X pins H' b:=by
 refine⟨hn,Nat.ne_of_gt (Nat.lt_of_lt_of_le I.lt hb),I.Ke hb,.inr (Nat.le_trans I.sz hb),fun x c e z=>?_,fun p hp z=>?_⟩
 ·obtain⟨v,q⟩:=I.cell x c e
  exact absurd (Nat.lt_of_lt_of_le q.lt (by rw[z];exact hb)) (Nat.lt_irrefl _)
 ·exact absurd (Nat.lt_of_lt_of_le (Heap.lt_size (I.pin p hp).1) (by rw[z];exact hb)) (Nat.lt_irrefl _)
structure Turn (P:Program) (w:World) (K:PySem.W.Frag) (tg:Expr) (J:It) (fp:List Addr) (it:Addr) (tn:Nat→Heap→Prop):Prop where
 mem:it∈fp
 obj:∀i h,tn i h→∀b∈fp,∃o,h.get? b=some o∧∀v,o.data≠.cell v
 keep:∀i h h',tn i h→(∀b∈fp,∀o,h.get? b=some o→h'.get? b=some o)→tn i h'
 item:∀(X:Cx),X.prog=P→X.w=w→X.K=K→X.calm=true→∀(i:Nat) (pins:List (Addr × Obj)) (s:Shared) (σ:St) (H:Hp) (E:Value→Shared→Prop),Inv X pins σ H s→(∀b∈fp,wD X pins H b)→tn i s.heap→J.go i H→
  wpAny (model P w) X.A (pyNext (.ref it)) (fun r s1=>∃u,r=some u∧
   wpAny (model P w) X.A (letOwnedTupleGo tg (.ref it) u) (fun _ s2=>∃x H',Inv X pins σ H' s2∧RelV x u∧J.aD i H x H'∧tn (i + 1) s2.heap∧∀b∈fp,H' b=none) E s1) E s
 done:∀(X:Cx),X.prog=P→X.w=w→X.K=K→X.calm=true→∀(i:Nat) (pins:List (Addr × Obj)) (s:Shared) (σ:St) (H:Hp) (E:Value→Shared→Prop),Inv X pins σ H s→(∀b∈fp,wD X pins H b)→tn i s.heap→J.stop i H→
  wpAny (model P w) X.A (pyNext (.ref it)) (fun r s1=>r=none∧Inv X pins σ H s1) E s
 self:∀(A:Around) (i:Nat) (s:Shared) (Q:Value→Shared→Prop) (E:Value→Shared→Prop),tn i s.heap→Q (.ref it) s→wpAny (model P w) A (pyIter (.ref it)) Q E s
noncomputable abbrev TI:=St→Hp→(It→Hp→Prop)→Prop
noncomputable def Vu (X:Cx) (pins:List (Addr × Obj)) (σ:St) (tg:Expr) (R:It→Hp→Prop) (itv:Value) (s2:Shared):Prop:=
 ∃(it:Addr) (fp:List Addr) (tn:Nat→Heap→Prop) (J:It) (H':Hp),itv=.ref it∧Inv X pins σ H' s2∧Turn X.prog X.w X.K tg J fp it tn∧tn 0 s2.heap∧(∀b∈fp,wD X pins H' b)∧R J H'
noncomputable def PI (X:Cx) (tg iter:Expr) (wi:TI):Prop:=
 ∀(pins:List (Addr × Obj)) (s:Shared) (σ:St) (H:Hp) (R:It→Hp→Prop),Inv X pins σ H s→wi σ H R→
  wpAny (model X.prog X.w) X.A (eval iter X.env) (fun v s1=>wpAny (model X.prog X.w) X.A (pyIter v) (Vu X pins σ tg R) X.xe s1) X.xe s
theorem Z4 {M:Model} {A:Around} {E:Value→Shared→Prop} {s:Shared} {tg:Expr} {it:Addr} {u:Value} {o:Obj} {n:String} {vs:Array Value} {Q:Unit→Shared→Prop} (ho:s.heap.get? it=some o) (hc:o.cls=.type n) (hd:o.data=.fields vs)
  (hn:["enumerate","zip","dict_itemiterator","dict_reverseitemiterator","odict_iterator","itertools.zip_longest","itertools.pairwise"].contains n=false) (hQ:Q () s):wpAny M A (letOwnedTupleGo tg (.ref it) u) Q E s:=by
 unfold letOwnedTupleGo
 cases tg<;>first
  | exact wpAny_pure hQ
  | (cases u<;>first
    | exact wpAny_pure hQ
    | (refine wpAny_bind (wpAny_load ho ?_);rw[hc,hd];show wpAny M A (if (["enumerate","zip","dict_itemiterator","dict_reverseitemiterator","odict_iterator","itertools.zip_longest","itertools.pairwise"].contains n && vs[0]? == some (rawInt _))=true then _ else _) Q E s;rw[if_neg (by intro h;rw[hn,Bool.false_and] at h;cases h)];exact wpAny_pure hQ))
noncomputable def aL (K:PySem.W.Frag) (a:Addr):It:=
 ⟨fun i H=>∃xs x,qC K H a xs∧xs[i]?=some x,fun i H x H'=>H'=H∧∀xs,qC K H a xs→xs[i]?=some x,fun i H=>∃xs,qC K H a xs∧xs.length≤i⟩
noncomputable def V2 (K:PySem.W.Frag) (a:Addr):It:=
 ⟨fun i H=>∃xs x,kU K H a xs∧xs[i]?=some x,fun i H x H'=>H'=H∧∀xs,kU K H a xs→xs[i]?=some x,fun i H=>∃xs,kU K H a xs∧xs.length≤i⟩
noncomputable def iy (lo:Int) (n:Nat):It:=⟨fun i _=>i < n,fun i H x H'=>H'=H∧x=.int (lo + i),fun i _=>n≤i⟩
theorem oS {P:Program} {w:World} {K:PySem.W.Frag} {tg:Expr} (a it:Addr):Turn P w K tg (aL K a) [it] it (fun i h=>h.IsListIter it a i) where
 mem:=by simp
 obj:=fun i h st b hb=>by
  have e:b=it:=by simpa using hb
  subst e
  obtain⟨o,e,c,d⟩:=st
  exact⟨o,e,fun v z=>by rw[d] at z;cases z⟩
 keep:=fun i h h' st k=>st.at fun o e=>k it (by simp) o e
 item:=by
  intro X hP hw hK hc i pins s σ H E I hf st hg
  subst hP hw hK
  obtain⟨xs,x,hq,hx⟩:=hg
  obtain⟨its,rv,p,hz⟩:=I.list hq
  obtain⟨u,hu,ru⟩:=rv.get hx
  obtain⟨f0,f1,f2,f3,f4,f5⟩:=hf it (by simp)
  refine wpAny_pyNext_list_item st p.isList (x:=u) (by simpa using hu) fun h' st' sb=>?_
  have I1:Inv X pins σ H { s with heap:=h' }:=I.turned (t':=s.toks) (fun b o hb e=>(sb.2 b hb).trans e) f0 f1 f3 f4 f5
  obtain⟨o,e,c,d⟩:=id st'
  exact⟨u,rfl,Z4 (s:={ s with heap:=h' }) e c d (by decide) ⟨x,H,I1,ru,⟨rfl,fun ys hy=>by rw[I.dJ hy hq];exact hx⟩,st',fun b hb=>(hf b hb).1⟩⟩
 done:=by
  intro X hP hw hK hc i pins s σ H E I hf st hg
  subst hP hw hK
  obtain⟨xs,hq,hx⟩:=hg
  obtain⟨its,rv,p,hz⟩:=I.list hq
  obtain⟨f0,f1,f2,f3,f4,f5⟩:=hf it (by simp)
  have hl:=rv.length
  exact wpAny_pyNext_list_end (I.ok.hd hc) st p.isList (by simp;omega) fun h' eb=>⟨rfl,I.turned (t':=s.toks) (fun b o hb e=>eb b o hb e) f0 f1 f3 f4 f5⟩
 self:=fun _ _ _ _ _ st h=>wpAny_pyIter_listiter st h
theorem tH {P:Program} {w:World} {K:PySem.W.Frag} {tg:Expr} (it:Addr) (lo:Int) (n:Nat):Turn P w K tg (iy lo n) [it] it (fun i h=>IsRangeIter h it (lo + (i:Nat) * 1) ((n:Int) - (i:Nat)) 1) where
 mem:=by simp
 obj:=fun i h st b hb=>by
  have e:b=it:=by simpa using hb
  subst e
  exact⟨_,st,fun v z=>by
   have z':Data.fields _=Data.cell v:=z
   cases z'⟩
 keep:=fun i h h' st k=>k it (by simp) _ st
 item:=by
  intro X hP hw hK hc i pins s σ H E I hf st hg
  subst hP hw hK
  obtain⟨f0,f1,f2,f3,f4,f5⟩:=hf it (by simp)
  have W:=Walks.range (prog:=X.prog) (w:=X.w) (I.ok.hd hc) it lo 1 n
  refine W.item i s _ _ hg st fun v h' tk hv st' kk=>?_
  obtain⟨t,rfl⟩:=hv
  have I1:Inv X pins σ H { s with heap:=h',toks:=tk }:=I.turned (fun b o hb e=>kk b o (by simpa using hb) e) f0 f1 f3 f4 f5
  refine⟨_,rfl,Z4 (s:={ s with heap:=h',toks:=tk }) (n:="range_iterator") st' rfl rfl (by decide) ⟨.int (lo + i),H,I1,⟨t,?_⟩,⟨rfl,rfl⟩,st',fun b hb=>(hf b hb).1⟩⟩
  rw[Int.mul_one]
 done:=by
  intro X hP hw hK hc i pins s σ H E I hf st hg
  subst hP hw hK
  obtain⟨f0,f1,f2,f3,f4,f5⟩:=hf it (by simp)
  exact wpAny_pyNext_range_end (I.ok.hd hc) st (by have:n≤i:=hg;omega) fun h' eb=>⟨rfl,I.turned (t':=s.toks) (fun b o hb e=>eb b o hb e) f0 f1 f3 f4 f5⟩
 self:=fun _ _ _ _ _ st h=>wpAny_pyIter_rangeiter st h
end L2
namespace L2
open PySem PySem.Spec PyProof.Rows
section
variable {X:Cx} {tg:Expr}
noncomputable def Z5 (K:PySem.W.Frag) (tl:TE):TI:=fun σ H R=>tl σ H fun x H1=>∃a,x=.ref a∧(∃xs,qC K H1 a xs)∧R (aL K a) H1
noncomputable def Wb (K:PySem.W.Frag) (tl:TE):TI:=fun σ H R=>tl σ H fun x H1=>∃a,x=.ref a∧(∃xs,kU K H1 a xs)∧R (V2 K a) H1
theorem ZK {l:Expr} {tl:TE} (hl:PE X l tl):PI X tg l (Z5 X.K tl):=by
 intro pins s σ H R I h
 refine xy (hl pins s σ H _ I h) fun v s1 ⟨x,H1,I1,r1,q1⟩=>?_
 obtain⟨a,e,⟨xs,hq⟩,q⟩:=q1
 subst e
 cases r1
 obtain⟨its,rv,p,hz⟩:=I1.list hq
 refine wpAny_pyIter_list p.isList ?_
 refine⟨s1.heap.objs.size,[s1.heap.objs.size],_,_,H1,rfl,I1.kept (t':=s1.toks) fun b o e=>Heap.get?_push_of_some _ e,oS a _,⟨_,Heap.get?_push_size _ rfl,rfl,rfl⟩,fun b hb=>?_,q⟩
 have e:b=s1.heap.objs.size:=by simpa using hb
 subst e
 exact I1.iR (Nat.le_refl _) (I1.jG.fresh (Nat.le_refl _))
theorem eO {pins:List (Addr × Obj)} {σ:St} {H:Hp} {s:Shared} {R:It→Hp→Prop} {E:Value→Shared→Prop} {lo hi:Int} {t u v:Tok} {tk:Nat} (I:Inv X pins σ H s) (h1:-(2 ^ 62)≤lo) (h2:lo < 2 ^ 62) (h3:-(2 ^ 62)≤hi) (h4:hi < 2 ^ 62)
  (q:R (iy lo (hi - lo).toNat) H):wpAny (model X.prog X.w) X.A (pyIter (.ref s.heap.objs.size)) (Vu X pins σ tg R) E { s with heap:=s.heap.push { cls:=.type "range",data:=.fields #[.int lo t,.int hi u,.int 1 v] },toks:=tk }:=by
 refine wpAny_pyIter_range (IsRange.new ..) (small_one h1 h2 h3 h4) ?_
 have I1:Inv X pins σ H { s with heap:=s.heap.push { cls:=.type "range",data:=.fields #[.int lo t,.int hi u,.int 1 v] },toks:=tk }:=I.kept fun b o e=>Heap.get?_push_of_some _ e
 refine⟨(s.heap.push { cls:=.type "range",data:=.fields #[.int lo t,.int hi u,.int 1 v] }).objs.size,[(s.heap.push { cls:=.type "range",data:=.fields #[.int lo t,.int hi u,.int 1 v] }).objs.size],_,_,H,rfl,
  I1.kept (t':=tk) fun b o e=>Heap.get?_push_of_some _ e,tH _ lo (hi - lo).toNat,?_,fun b hb=>?_,q⟩
 ·have e1:lo + ((0:Nat):Int) * 1=lo:=by simp
  have e2:(((hi - lo).toNat:Nat):Int) - ((0:Nat):Int)=Builtin.Range.rangeSize lo hi 1:=by rw[rangeSize_one];split<;>omega
  show IsRangeIter _ _ (lo + ((0:Nat):Int) * 1) ((((hi - lo).toNat:Nat):Int) - ((0:Nat):Int)) 1
  rw[e1,e2]
  exact Heap.get?_push_size _ rfl
 ·have e:b=(s.heap.push { cls:=.type "range",data:=.fields #[.int lo t,.int hi u,.int 1 v] }).objs.size:=by simpa using hb
  subst e
  exact I1.iR (Nat.le_refl _) (I1.jG.fresh (Nat.le_refl _))
noncomputable def JT (ta:TA):TI:=fun σ H R=>ta σ H fun vs H1=>∃j:Int,vs=[.int j]∧-(2 ^ 62)≤j∧j < 2 ^ 62∧R (iy 0 j.toNat) H1
noncomputable def Vt (ta:TA):TI:=fun σ H R=>ta σ H fun vs H1=>∃i j:Int,vs=[.int i,.int j]∧(-(2 ^ 62)≤i∧i < 2 ^ 62∧-(2 ^ 62)≤j∧j < 2 ^ 62)∧R (iy i (j - i).toNat) H1
theorem kO {a:Expr} {ta:TA} {p pos:Pos} (hg:Gl X "range") (hm:X.mg "range" = none) (ha:PA X [a] ta) (hs:starEach [a] X.env=[(false,eval a X.env)]:=by rfl):PI X tg (.Call (.Name "range" p) [a] [] pos) (JT ta):=by
 intro pins s σ H R I h
 refine Call_ (fP I hg hm boot_range (PyProof.Rows.callWith_type1 (xy (ha pos pins s σ H _ I h) fun us s1 ⟨vs,H1,I1,r1,q1⟩=>?_) hs rfl))
 obtain⟨j,e,q1,q2,q⟩:=q1
 subst e
 cases r1 with
 | cons r rr=>
  cases rr
  obtain⟨t,rfl⟩:=r
  exact call_range_1 (eO I1 (by omega) (by omega) q1 q2 (by simpa using q))
noncomputable def K8 (wi:TI) (g:TG) (tb:TS):TS:=fun D σ H=>wi σ H fun J H1=>∃W:Nat→Nat→St→Hp→Prop,(∃m,W 0 m σ H1)∧∀i m σ H,W i m σ H→
 (J.stop i H∧D.nx σ H)∨(J.go i H∧∃N:St→Hp→Prop,(∀σ' H',N σ' H'→∃m',m' < m∧W (i + 1) m' σ' H')∧∀x H',J.aD i H x H'→g x σ H' fun σ2 H2=>tb { D with nx:=N,ct:=N,bk:=D.nx } σ2 H2)
noncomputable def dO (fp:List Addr) (h:Heap):List (Addr × Obj):=fp.filterMap fun b=>(h.get? b).map fun o=>(b,o)
theorem kT {fp:List Addr} {h:Heap} {b:Addr} {o:Obj} (hb:b∈fp) (e:h.get? b=some o):(b,o)∈dO fp h:=List.mem_filterMap.mpr ⟨b,hb,by rw[e];rfl⟩
theorem oi {fp:List Addr} {h:Heap} {p:Addr × Obj} (hp:p∈dO fp h):p.1∈fp∧h.get? p.1=some p.2:=by
 obtain⟨b,hb,e⟩:=List.mem_filterMap.mp hp
 cases q:h.get? b with
 | none=>rw[q] at e;cases e
 | some o=>
  rw[q] at e
  have e':(b,o)=p:=Option.some.inj e
  subst e'
  exact⟨hb,q⟩
theorem Inv.pinned {pins:List (Addr × Obj)} {σ:St} {H:Hp} {s:Shared} {fp:List Addr} (I:Inv X pins σ H s) (hf:∀b∈fp,wD X pins H b) (ho:∀b∈fp,∃o,s.heap.get? b=some o∧∀v,o.data≠.cell v):Inv X (pins ++ dO fp s.heap) σ H s:=
 I.m5 fun p hp=>(List.mem_append.mp hp).elim (fun z=>I.pin p (List.mem_append_right _ z)) fun z=>by
  obtain⟨hb,e⟩:=oi z
  obtain⟨f0,f1,f2,_⟩:=hf p.1 hb
  obtain⟨o,e',d⟩:=ho p.1 hb
  rw[e] at e';cases e'
  exact⟨e,f0,f1,f2,d⟩
theorem Inv.vo {pins pl:List (Addr × Obj)} {σ:St} {H:Hp} {s:Shared} (I:Inv X (pins ++ pl) σ H s):Inv X pins σ H s:=I.m5 fun p hp=>I.pin p (List.mem_append_right _ (List.mem_append_left _ hp))
theorem kI {iter:Expr} {body:List Stmt} {wi:TI} {g:TG} {tb:TS} {pos:Pos} (hp:PassesOwn (model X.prog X.w) X.A X.env X.xe) (hc:X.calm=true) (hi:PI X tg iter wi) (hg:PG X tg g) (hb:sk X body tb)
  (hs:∀x,foldedSetIterable iter X.env x=pure x:=by intro _;rfl):PS X (.For tg iter body [] pos) (K8 wi g tb):=by
 intro pins s σ H D I h
 refine wpAny_For (xy (hi pins s σ H _ I h) fun v s1 h1=>xy h1 fun itv s2 h2=>?_) hs
 obtain⟨it,fp,tn,J,H2,e,I2,T,st2,f2,W,⟨m0,w0⟩,turn⟩:=h2
 subst e
 have stat:∀{H':Hp},(∀b∈fp,H' b=none)→∀b∈fp,wD X pins H' b:=fun hn b hb=>⟨hn b hb,(f2 b hb).2⟩
 refine codeAny_forLoop_any (fun n s'=>∃i σ' H',Inv X pins σ' H' s'∧tn i s'.heap∧(∀b∈fp,H' b=none)∧W i n σ' H') ?_ m0 ⟨0,σ,H2,I2,st2,fun b hb=>(f2 b hb).1,w0⟩
 rintro n s3 ⟨i,σ3,H3,I3,st3,fr3,w3⟩
 rcases turn i n σ3 H3 w3 with ⟨stop,qn⟩ | ⟨go,N,hN,step⟩
 ·refine wpAny_passesOwn hp (xy (T.done X rfl rfl rfl hc i pins s3 σ3 H3 X.xe I3 (stat fr3) st3 stop) fun r s4 ⟨hr,I4⟩=>?_)
  subst hr
  exact wpAny_execs_nil ⟨σ3,H3,I4,qn⟩
 ·refine wpAny_passesOwn hp (xy (T.item X rfl rfl rfl hc i pins s3 σ3 H3 X.xe I3 (stat fr3) st3 go) fun r s4 ⟨u,hr,h4⟩=>?_)
  subst hr
  refine wpAny_passesOwn hp (xy h4 fun _ s5 ⟨x,H5,I5,r5,y5,st5,fr5⟩=>?_)
  have I5':=I5.pinned (stat fr5) (T.obj _ _ st5)
  refine wpAny_passesOwn hp (xy (hg _ s5 σ3 H5 x u _ I5' r5 (step x H5 y5)) fun _ s6 ⟨σ6,H6,I6,q6⟩=>?_)
  refine wpAny_passesOwn hp (xy (hb _ s6 σ6 H6 _ I6 q6) fun f s7 q7=>?_)
  have again:∀{σ7:St} {H7:Hp},Inv X (pins ++ dO fp s5.heap) σ7 H7 s7→N σ7 H7→∃m,m < n∧∃i σ' H',Inv X pins σ' H' s7∧tn i s7.heap∧(∀b∈fp,H' b=none)∧W i m σ' H':=fun {σ7 H7} I7 n7=>by
   obtain⟨m',hm,w7⟩:=hN σ7 H7 n7
   refine⟨m',hm,i + 1,σ7,H7,I7.vo,T.keep _ _ _ st5 fun b hb o e=>(I7.pin (b,o) (List.mem_append_right _ (List.mem_append_right _ (kT hb e)))).1,fun b hb=>?_,w7⟩
   obtain⟨o,e,d⟩:=T.obj _ _ st5 b hb
   exact(I7.pin (b,o) (List.mem_append_right _ (List.mem_append_right _ (kT hb e)))).2.1
  cases f with
  | next=>obtain⟨σ7,H7,I7,n7⟩:=q7;exact again I7 n7
  | cont=>obtain⟨σ7,H7,I7,n7⟩:=q7;exact again I7 n7
  | brk=>obtain⟨σ7,H7,I7,q7⟩:=q7;exact⟨σ7,H7,I7.vo,q7⟩
  | ret v=>obtain⟨x7,σ7,H7,I7,r7,q7⟩:=q7;exact⟨x7,σ7,H7,I7.vo,r7,q7⟩
end
theorem dc {K:PySem.W.Frag} {a:Addr} {xs:List V} {g:TG} {tb:TS} {D:Ends} {σ:St} {H:Hp} (Pv:Nat→St→Hp→Prop) (h0:Pv 0 σ H) (hl:∀i σ H,i≤xs.length→Pv i σ H→qC K H a xs)
  (hs:∀i x σ H,xs[i]?=some x→Pv i σ H→g x σ H fun σ2 H2=>tb { D with nx:=Pv (i + 1),ct:=Pv (i + 1),bk:=D.nx } σ2 H2) (hd:∀σ H,Pv xs.length σ H→D.nx σ H) :
  ∃W:Nat→Nat→St→Hp→Prop,(∃m,W 0 m σ H)∧∀i m σ H,W i m σ H→
   ((aL K a).stop i H∧D.nx σ H)∨((aL K a).go i H∧∃N:St→Hp→Prop,(∀σ' H',N σ' H'→∃m',m' < m∧W (i + 1) m' σ' H')∧∀x H',(aL K a).aD i H x H'→g x σ H' fun σ2 H2=>tb { D with nx:=N,ct:=N,bk:=D.nx } σ2 H2):=by
 refine⟨fun i m σ H=>m=xs.length - i∧i≤xs.length∧Pv i σ H,⟨xs.length,by simp,Nat.zero_le _,h0⟩,?_⟩
 rintro i m σ H ⟨rfl,hi,p⟩
 have q:=hl i σ H hi p
 by_cases hlt:i < xs.length
 ·refine .inr ⟨⟨xs,xs[i],q,by simp [hlt]⟩,Pv (i + 1),fun σ' H' p'=>⟨xs.length - (i + 1),by omega,rfl,hlt,p'⟩,fun x H' y=>?_⟩
  obtain⟨e,y⟩:=y
  subst e
  exact hs i x σ _ (y xs q) p
 ·have e:i=xs.length:=by omega
  subst e
  exact .inl ⟨⟨xs,q,Nat.le_refl _⟩,hd σ H p⟩
theorem fW {lo:Int} {n:Nat} {g:TG} {tb:TS} {D:Ends} {σ:St} {H:Hp} (Pv:Nat→St→Hp→Prop) (h0:Pv 0 σ H)
  (hs:∀i σ H,i < n→Pv i σ H→g (.int (lo + i)) σ H fun σ2 H2=>tb { D with nx:=Pv (i + 1),ct:=Pv (i + 1),bk:=D.nx } σ2 H2) (hd:∀σ H,Pv n σ H→D.nx σ H) :
  ∃W:Nat→Nat→St→Hp→Prop,(∃m,W 0 m σ H)∧∀i m σ H,W i m σ H→
   ((iy lo n).stop i H∧D.nx σ H)∨((iy lo n).go i H∧∃N:St→Hp→Prop,(∀σ' H',N σ' H'→∃m',m' < m∧W (i + 1) m' σ' H')∧∀x H',(iy lo n).aD i H x H'→g x σ H' fun σ2 H2=>tb { D with nx:=N,ct:=N,bk:=D.nx } σ2 H2):=by
 refine⟨fun i m σ H=>m=n - i∧i≤n∧Pv i σ H,⟨n,by simp,Nat.zero_le _,h0⟩,?_⟩
 rintro i m σ H ⟨rfl,hi,p⟩
 by_cases hlt:i < n
 ·refine .inr ⟨hlt,Pv (i + 1),fun σ' H' p'=>⟨n - (i + 1),by omega,rfl,hlt,p'⟩,fun x H' y=>?_⟩
  obtain⟨e,y⟩:=y
  subst e y
  exact hs i σ _ hlt p
 ·have e:i=n:=by omega
  subst e
  exact .inl ⟨Nat.le_refl _,hd σ H p⟩
end L2
namespace L2
open PySem PySem.Spec PyProof.Rows
noncomputable abbrev R2:=V→V→Hp→VK→Prop
noncomputable def bg (X:Cx) (f:Value→Value→Sem Value) (r:R2):Prop:=
 ∀(pins:List (Addr × Obj)) (s:Shared) (σ:St) (H:Hp) (x y:V) (v u:Value) (Q:VK),Inv X pins σ H s→RelV x v→RelV y u→r x y H Q→
  wpAny (model X.prog X.w) X.A (f v u) (EP X pins σ Q) X.xe s
noncomputable def Kv (X:Cx) (f:Value→Sem Value) (r:V→Hp→VK→Prop):Prop:=
 ∀(pins:List (Addr × Obj)) (s:Shared) (σ:St) (H:Hp) (x:V) (v:Value) (Q:VK),Inv X pins σ H s→RelV x v→r x H Q→
  wpAny (model X.prog X.w) X.A (f v) (EP X pins σ Q) X.xe s
noncomputable def vR (X:Cx) (f:Value) (r:List V→Hp→VK→Prop):Prop:=
 ∀(pins:List (Addr × Obj)) (s:Shared) (σ:St) (H:Hp) (xs:List V) (us:List Value) (Q:VK),Inv X pins σ H s→Vals xs us→r xs H Q→
  wpAny (model X.prog X.w) X.A (call f us) (EP X pins σ Q) X.xe s
noncomputable def V9 (X:Cx) (r:V→Hp→(Bool→Hp→Prop)→Prop):Prop:=
 ∀(pins:List (Addr × Obj)) (s:Shared) (σ:St) (H:Hp) (x:V) (v:Value) (Q:Bool→Hp→Prop),Inv X pins σ H s→RelV x v→r x H Q→
  wpAny (model X.prog X.w) X.A (truthy v) (TP X pins σ Q) X.xe s
noncomputable def X8 (r:R2) (ta tb:TE):TE:=fun σ H Q=>ta σ H fun x H1=>tb σ H1 fun y H2=>r x y H2 Q
noncomputable def WR (r:V→Hp→VK→Prop) (ta:TE):TE:=fun σ H Q=>ta σ H fun x H1=>r x H1 Q
noncomputable def rI (C:Int→Int→Prop) (g:Int→Int→V):R2:=fun x y H Q=>∃i j,x=.int i∧y=.int j∧C i j∧Q (g i j) H
noncomputable def Jc (g:Int→Int→V):R2:=fun x y H Q=>∃i j,x=.int i∧y=.int j∧Q (g i j) H
noncomputable def rU (g:Int→V):V→Hp→VK→Prop:=fun x H Q=>∃i,x=.int i∧Q (g i) H
section
variable {X:Cx} {a b c:Expr} {ta tb tc:TE} {pos:Pos}
theorem Qr (ha:PE X a ta) (hb:PE X b tb) {pins:List (Addr × Obj)} {s:Shared} {σ:St} {H:Hp} {R:V→V→Hp→Prop} (I:Inv X pins σ H s)
  (h:ta σ H fun x H1=>tb σ H1 fun y H2=>R x y H2) {Q:Value→Shared→Prop} {f:Value→Value→Sem Value}
  (hf:∀v u s2 x y H2,Inv X pins σ H2 s2→RelV x v→RelV y u→R x y H2→wpAny (model X.prog X.w) X.A (f v u) Q X.xe s2) :
  wpAny (model X.prog X.w) X.A (eval a X.env) (fun v s₁=>wpAny (model X.prog X.w) X.A (eval b X.env) (fun u s₂=>wpAny (model X.prog X.w) X.A (f v u) Q X.xe s₂) X.xe s₁) X.xe s:=by
 refine xy (ha pins s σ H _ I h) fun v s1 ⟨x,H1,I1,r1,q1⟩=>?_
 refine xy (hb pins s1 σ H1 _ I1 q1) fun u s2 ⟨y,H2,I2,r2,q2⟩=>?_
 exact hf v u s2 x y H2 I2 r1 r2 q2
theorem qk {op:Operator} {r:R2} (ho:bg X (binaryOp op) r) (ha:PE X a ta) (hb:PE X b tb):PE X (.BinOp a op b pos) (X8 r ta tb):=by
 intro pins s σ H Q I h
 exact wpAny_BinOp (Qr ha hb I h fun v u s2 x y H2 I2 rx ry q=>ho pins s2 σ H2 x y v u Q I2 rx ry q)
theorem Qz {op:UnaryOp} {r:V→Hp→VK→Prop} (ho:Kv X (unaryOp op) r) (ha:PE X a ta):PE X (.UnaryOp op a pos) (WR r ta):=by
 intro pins s σ H Q I h
 exact UnaryOp_ (xy (ha pins s σ H _ I h) fun v s1 ⟨x,H1,I1,r1,q1⟩=>ho pins s1 σ H1 x v Q I1 r1 q1)
theorem X0 {f:Value→Value→Sem Value} {C:Int→Int→Prop} {g:Int→Int→Int}
  (rule:∀(i j:Int) (t u:Tok) (s:Shared) (Q:Value→Shared→Prop) (E:Value→Shared→Prop),C i j→Q (.int (g i j) s.toks) { s with toks:=s.toks + 1 }→wpAny (model X.prog X.w) X.A (f (.int i t) (.int j u)) Q E s) :
  bg X f (rI C fun i j=>.int (g i j)):=by
 intro pins s σ H x y v u Q I rx ry h
 obtain⟨i,j,rfl,rfl,hc,q⟩:=h
 obtain⟨t,rfl⟩:=rx
 obtain⟨t',rfl⟩:=ry
 exact rule i j t t' s _ _ hc ⟨.int (g i j),H,I.tok _,⟨_,rfl⟩,q⟩
theorem J4 {f:Value→Value→Sem Value} {g:Int→Int→Int}
  (rule:∀(i j:Int) (t u:Tok) (s:Shared) (Q:Value→Shared→Prop) (E:Value→Shared→Prop),Q (.int (g i j) s.toks) { s with toks:=s.toks + 1 }→wpAny (model X.prog X.w) X.A (f (.int i t) (.int j u)) Q E s) :
  bg X f (Jc fun i j=>.int (g i j)):=by
 intro pins s σ H x y v u Q I rx ry h
 obtain⟨i,j,rfl,rfl,q⟩:=h
 obtain⟨t,rfl⟩:=rx
 obtain⟨t',rfl⟩:=ry
 exact rule i j t t' s _ _ ⟨.int (g i j),H,I.tok _,⟨_,rfl⟩,q⟩
theorem J3 {f:Value→Value→Sem Value} {g:Int→Int→Bool}
  (rule:∀(i j:Int) (t u:Tok) (s:Shared) (Q:Value→Shared→Prop) (E:Value→Shared→Prop),Q (.bool (g i j)) s→wpAny (model X.prog X.w) X.A (f (.int i t) (.int j u)) Q E s) :
  bg X f (Jc fun i j=>.bl (g i j)):=by
 intro pins s σ H x y v u Q I rx ry h
 obtain⟨i,j,rfl,rfl,q⟩:=h
 obtain⟨t,rfl⟩:=rx
 obtain⟨t',rfl⟩:=ry
 exact rule i j t t' s _ _ ⟨.bl (g i j),H,I,rfl,q⟩
noncomputable def Kz (i j:Int):Prop:=0 < j∧j < 1073741824
noncomputable def Vf (i j:Int):Prop:=j≠0∧j.natAbs < 1073741824
noncomputable def Kq (i j:Int):Prop:=0≤j∧j≤1000000∧i.natAbs < 2 ^ 64
noncomputable def Qh (i j:Int):Prop:=(-(2 ^ 64) < i∧i < 2 ^ 64)∨(-(2 ^ 64) < j∧j < 2 ^ 64)
theorem Qh.ok {i j:Int} (h:Qh i j):IntMulOk i j:=by
 rcases h with ⟨h1,h2⟩ | ⟨h1,h2⟩
 ·exact .of_left (intBits_le_64 h1 h2)
 ·exact .of_right (intBits_le_64 h1 h2)
theorem xf:bg X (binaryOp .Add) (Jc fun i j=>.int (i + j)):=J4 fun _ _ _ _ _ _ _ q=>add_int q
theorem b9:bg X (binaryOp .Sub) (Jc fun i j=>.int (i - j)):=J4 fun _ _ _ _ _ _ _ q=>sub_int q
theorem dR:bg X (binaryOp .Mult) (rI Qh fun i j=>.int (i * j)):=X0 fun _ _ _ _ _ _ _ hc q=>mul_int q hc.ok
theorem kB:bg X (binaryOp .FloorDiv) (rI Kz fun i j=>.int (i / j)):=X0 fun i j _ _ _ _ _ hc q=>by
 have h1:(0:Int) < j:=hc.1
 have h2:j < 1073741824:=hc.2
 exact floordiv_int (by omega) (by rw[Int.fdiv_eq_ediv_of_nonneg i (by omega)];exact q) (.inl (PyProof.noPylong_small (by omega)))
theorem jz:bg X (binaryOp .Mod) (rI (fun _ j=>0 < j) fun i j=>.int (i % j)):=X0 fun i j _ _ _ _ _ hc q=>by
 have h1:(0:Int) < j:=hc
 exact mod_int' (by omega) (by rw[Int.fmod_eq_emod_of_nonneg i (by omega)];exact q)
theorem QS:bg X (binaryOp .Pow) (rI Kq fun i j=>.int (i ^ j.toNat)):=X0 fun _ _ _ _ _ _ _ hc q=>pow_int_small hc.1 hc.2.1 hc.2.2 q
theorem WS {f:Value→Sem Value} {g:Int→Int}
  (rule:∀(i:Int) (t:Tok) (s:Shared) (Q:Value→Shared→Prop) (E:Value→Shared→Prop),Q (.int (g i) s.toks) { s with toks:=s.toks + 1 }→wpAny (model X.prog X.w) X.A (f (.int i t)) Q E s) :
  Kv X f (rU fun i=>.int (g i)):=by
 intro pins s σ H x v Q I rx h
 obtain⟨i,rfl,q⟩:=h
 obtain⟨t,rfl⟩:=rx
 exact rule i t s _ _ ⟨.int (g i),H,I.tok _,⟨_,rfl⟩,q⟩
theorem aG:Kv X (unaryOp .USub) (rU fun i=>.int (-i)):=WS fun _ _ _ _ _ q=>neg_int q
end
noncomputable def Xh:V→V→Bool
 | .non,.non=>true | .non,.int _=>true | .int _,.non=>true | .non,.bl _=>true | .bl _,.non=>true | .non,.str _=>true | .str _,.non=>true
 | .int _,.int _=>true | .bl _,.bl _=>true | .str _,.str _=>true | .byt _,.byt _=>true
 | .int _,.str _=>true | .str _,.int _=>true | .bl _,.str _=>true | .str _,.bl _=>true
 | _,_=>false
noncomputable def Wr:R2:=fun x y H Q=>Xh x y=true∧Q (.bl (decide (x=y))) H
noncomputable def Ws:R2:=fun x y H Q=>Xh x y=true∧Q (.bl (!decide (x=y))) H
theorem tE {i j:Int}:decide (V.int i=V.int j)=(i == j):=by
 rw[Bool.eq_iff_iff]
 simp
theorem iK {i j:Bool}:decide (V.bl i=V.bl j)=(i == j):=by
 rw[Bool.eq_iff_iff]
 simp
theorem t5 {i j:Str}:decide (V.str i=V.str j)=(i == j):=by
 rw[Bool.eq_iff_iff]
 simp
theorem tI {i j:Array UInt8}:decide (V.byt i=V.byt j)=(i.toList == j.toList):=by
 rw[Bool.eq_iff_iff]
 cases i
 cases j
 simp
section
variable {X:Cx} {a b c:Expr} {ta tb tc:TE} {pos:Pos}
theorem jv {pins:List (Addr × Obj)} {σ:St} {H:Hp} {s:Shared} {Q:VK} {k k':Bool} (I:Inv X pins σ H s) (q:Q (.bl k) H) (e:k=k'):EP X pins σ Q (.bool k') s:=by
 subst e
 exact⟨.bl k,H,I,rfl,q⟩
theorem jo:bg X (compareOp .Eq) Wr:=by
 intro pins s σ H x y v u Q I rx ry h
 obtain⟨hs,q⟩:=h
 cases x with
 | non=>
  cases rx
  cases y with
  | non=>cases ry;exact PySem.EqNone.eq_none_none (jv I q (by simp))
  | bl j=>cases ry;exact PySem.EqNone.eq_none_bool (jv I q (by simp))
  | int j=>obtain⟨t',rfl⟩:=ry;exact PySem.EqNone.eq_none_int (jv I q (by simp))
  | str j=>obtain⟨t',rfl⟩:=ry;exact PySem.EqNone.eq_none_str (jv I q (by simp))
  | _=>exact absurd (show false=true from hs) Bool.false_ne_true
 | bl i=>
  cases rx
  cases y with
  | non=>cases ry;exact PySem.EqNone.eq_bool_none (jv I q (by simp))
  | bl j=>cases ry;exact eq_bool (jv I q iK)
  | str j=>obtain⟨t',rfl⟩:=ry;exact PySem.EqMixed.eq_bool_str (jv I q (by simp))
  | _=>exact absurd (show false=true from hs) Bool.false_ne_true
 | int i=>
  obtain⟨t,rfl⟩:=rx
  cases y with
  | non=>cases ry;exact PySem.EqNone.eq_int_none (jv I q (by simp))
  | int j=>obtain⟨t',rfl⟩:=ry;exact eq_int (jv I q tE)
  | str j=>obtain⟨t',rfl⟩:=ry;exact PySem.EqMixed.eq_int_str (jv I q (by simp))
  | _=>exact absurd (show false=true from hs) Bool.false_ne_true
 | str i=>
  obtain⟨t,rfl⟩:=rx
  cases y with
  | non=>cases ry;exact PySem.EqNone.eq_str_none (jv I q (by simp))
  | bl j=>cases ry;exact PySem.EqMixed.eq_str_bool (jv I q (by simp))
  | int j=>obtain⟨t',rfl⟩:=ry;exact PySem.EqMixed.eq_str_int (jv I q (by simp))
  | str j=>obtain⟨t',rfl⟩:=ry;exact eq_str (jv I q t5)
  | _=>exact absurd (show false=true from hs) Bool.false_ne_true
 | byt i=>
  obtain⟨t,rfl⟩:=rx
  cases y with
  | byt j=>obtain⟨t',rfl⟩:=ry;exact PySem.W.eq_bytes (jv I q tI)
  | _=>exact absurd (show false=true from hs) Bool.false_ne_true
 | _=>cases y<;>exact absurd (show false=true from hs) Bool.false_ne_true
theorem eX:bg X (compareOp .NotEq) Ws:=by
 intro pins s σ H x y v u Q I rx ry h
 obtain⟨hs,q⟩:=h
 cases x with
 | non=>
  cases rx
  cases y with
  | non=>cases ry;exact PySem.EqNone.ne_none_none (jv I q (by simp))
  | bl j=>cases ry;exact PySem.EqNone.ne_none_bool (jv I q (by simp))
  | int j=>obtain⟨t',rfl⟩:=ry;exact PySem.EqNone.ne_none_int (jv I q (by simp))
  | str j=>obtain⟨t',rfl⟩:=ry;exact PySem.EqNone.ne_none_str (jv I q (by simp))
  | _=>exact absurd (show false=true from hs) Bool.false_ne_true
 | bl i=>
  cases rx
  cases y with
  | non=>cases ry;exact PySem.EqNone.ne_bool_none (jv I q (by simp))
  | bl j=>cases ry;exact ne_bool (jv I q (congrArg not iK))
  | str j=>obtain⟨t',rfl⟩:=ry;exact PySem.EqMixed.ne_bool_str (jv I q (by simp))
  | _=>exact absurd (show false=true from hs) Bool.false_ne_true
 | int i=>
  obtain⟨t,rfl⟩:=rx
  cases y with
  | non=>cases ry;exact PySem.EqNone.ne_int_none (jv I q (by simp))
  | int j=>obtain⟨t',rfl⟩:=ry;exact ne_int (jv I q (congrArg not tE))
  | str j=>obtain⟨t',rfl⟩:=ry;exact PySem.EqMixed.ne_int_str (jv I q (by simp))
  | _=>exact absurd (show false=true from hs) Bool.false_ne_true
 | str i=>
  obtain⟨t,rfl⟩:=rx
  cases y with
  | non=>cases ry;exact PySem.EqNone.ne_str_none (jv I q (by simp))
  | bl j=>cases ry;exact PySem.EqMixed.ne_str_bool (jv I q (by simp))
  | int j=>obtain⟨t',rfl⟩:=ry;exact PySem.EqMixed.ne_str_int (jv I q (by simp))
  | str j=>obtain⟨t',rfl⟩:=ry;exact ne_str (jv I q (congrArg not t5))
  | _=>exact absurd (show false=true from hs) Bool.false_ne_true
 | byt i=>
  obtain⟨t,rfl⟩:=rx
  cases y with
  | byt j=>obtain⟨t',rfl⟩:=ry;exact PySem.W.ne_bytes (jv I q (congrArg not tI))
  | _=>exact absurd (show false=true from hs) Bool.false_ne_true
 | _=>cases y<;>exact absurd (show false=true from hs) Bool.false_ne_true
theorem lQ:bg X (compareOp .Lt) (Jc fun i j=>.bl (decide (i < j))):=J3 fun _ _ _ _ _ _ _ q=>lt_int q
theorem eZ:bg X (compareOp .Gt) (Jc fun i j=>.bl (decide (j < i))):=J3 fun _ _ _ _ _ _ _ q=>gt_int q
theorem eQ:bg X (compareOp .Is) (fun x y H Q=>y=.non∧Q (.bl (decide (x=.non))) H):=by
 intro pins s σ H x y v u Q I rx ry h
 obtain⟨rfl,q⟩:=h
 cases ry
 refine is_none_gen (jv I q ?_)
 cases x<;>first
  | (cases rx;rfl)
  | (obtain⟨t,rfl⟩:=rx;rfl)
theorem ZQ:bg X (compareOp .IsNot) (fun x y H Q=>y=.non∧Q (.bl (!decide (x=.non))) H):=by
 intro pins s σ H x y v u Q I rx ry h
 obtain⟨rfl,q⟩:=h
 cases ry
 refine isnot_none_gen (jv I q ?_)
 cases x<;>first
  | (cases rx;rfl)
  | (obtain⟨t,rfl⟩:=rx;rfl)
noncomputable def isObj:HO→Bool
 | .lst _=>true
 | .ins _ _ _=>true
 | _=>false
theorem qi (b:Expr) {op:CmpOp} (h:op≠.In:=by decide) (h2:op≠.NotIn:=by decide):behindInMarks op b=false:=by
 have e1:(op == CmpOp.In)=false:=by cases op<;>first | rfl | exact absurd rfl h
 have e2:(op == CmpOp.NotIn)=false:=by cases op<;>first | rfl | exact absurd rfl h2
 cases b<;>simp [behindInMarks,e1,e2]
theorem vB {op:CmpOp} {r:R2} (ho:bg X (compareOp op) r) (ha:PE X a ta) (hb:PE X b tb) (hm:behindInMarks op b=false):PE X (.Compare a [op] [b] pos) (X8 r ta tb):=by
 intro pins s σ H Q I h
 exact wpAny_Compare1 (Qr ha hb I h fun v u s2 x y H2 I2 rx ry q=>ho pins s2 σ H2 x y v u Q I2 rx ry q) hm
noncomputable def XG (t:TE):TT:=fun σ H Q=>t σ H fun x H'=>∃k,x=.bl k∧Q k H'
theorem qu {op:CmpOp} {r:R2} (ho:bg X (compareOp op) r) (ha:PE X a ta) (hb:PE X b tb) (hm:behindInMarks op b=false):PT X (.Compare a [op] [b] pos) (XG (X8 r ta tb)):=by
 intro pins s σ H Q I h
 refine wpAny_isTrue_Compare1 (xy (ha pins s σ H _ I h) fun v s1 ⟨x,H1,I1,r1,q1⟩=>xy (hb pins s1 σ H1 _ I1 q1) fun u s2 ⟨y,H2,I2,r2,q2⟩=>
  xy (ho pins s2 σ H2 x y v u _ I2 r1 r2 q2) fun c s3 ⟨z,H3,I3,r3,k,e,q3⟩=>?_) hm
 subst e
 cases r3
 exact wpAny_truthy_bool ⟨H3,I3,q3⟩
noncomputable def K0 (r r':R2) (ta tb tc:TE):TE:=fun σ H Q=>ta σ H fun x H1=>tb σ H1 fun y H2=>r x y H2 fun z H3=>∃k,z=.bl k∧
 (if k=true then tc σ H3 fun w' H4=>r' y w' H4 Q else Q (.bl false) H3)
noncomputable def Wz (K:PySem.W.Frag) (x:V) (H:Hp) (k:Bool):Prop:=
 match x with
 | .non=>k=false
 | .bl b=>k=b
 | .int i=>k=(i != 0)
 | .str y=>y.length≤sizeLine∧k=((y.length:Int) != 0)
 | .byt y=>y.size≤sizeLine∧k=((y.size:Int) != 0)
 | .ref p=>(∃xs,qC K H p xs∧k = !xs.isEmpty)∨(∃xs,kU K H p xs∧k = !xs.isEmpty)∨∃kvs,H p=some (.dK kvs)∧k = !kvs.isEmpty
 | _=>False
theorem dQ:(sizeLine:Nat) < 2 ^ 63:=by rw[sizeLine_eq];decide
theorem qf:bg X (binaryOp .Add) (fun x y H Q=>∃i j,x=.str i∧y=.str j∧i.length + j.length≤sizeLine∧Q (.str (i ++ j)) H):=by
 intro pins s σ H x y v u Q I rx ry h
 obtain⟨i,j,rfl,rfl,hz,q⟩:=h
 obtain⟨t,rfl⟩:=rx
 obtain⟨t',rfl⟩:=ry
 exact add_str (fun t' tk=>⟨.str (i ++ j),H,I.tok _,⟨_,rfl⟩,q⟩) hz
noncomputable def Ji (b:Expr):Prop:=∀o i,subscripted b false o i=operate [o,i] (getItem o i)
theorem vals1 {x:V} {us:List Value} (r:Vals [x] us):∃u,us=[u]∧RelV x u:=by
 cases r with
 | cons r1 r2=>cases r2;exact⟨_,rfl,r1⟩
theorem vals2 {x y:V} {us:List Value} (r:Vals [x,y] us):∃u w',us=[u,w']∧RelV x u∧RelV y w':=by
 cases r with
 | cons r1 r2=>
  cases r2 with
  | cons r3 r4=>cases r4;exact⟨_,_,rfl,r1,r3⟩
theorem cB (hc:X.calm=true):vR X (.builtin "max") (fun xs H Q=>∃i j,xs=[.int i,.int j]∧Q (.int (if j > i then j else i)) H):=by
 intro pins s σ H xs us Q I r h
 obtain⟨i,j,rfl,q⟩:=h
 obtain⟨u,w',rfl,⟨t,rfl⟩,⟨t',rfl⟩⟩:=vals2 r
 refine max_two_ints (I.ok.hd hc) fun h' tk k=>⟨_,H,I.kept k,?_,q⟩
 by_cases hj:j > i
 ·rw[if_pos hj,if_pos hj];exact⟨_,rfl⟩
 ·rw[if_neg hj,if_neg hj];exact⟨_,rfl⟩
theorem vD:vR X (.type "int") (fun xs H Q=>(∃i,xs=[.int i]∧Q (.int i) H)∨∃k,xs=[.bl k]∧Q (.int (if k then 1 else 0)) H):=by
 intro pins s σ H xs us Q I r h
 rcases h with ⟨i,rfl,q⟩ | ⟨k,rfl,q⟩
 ·obtain⟨u,rfl,t,rfl⟩:=vals1 r
  exact call_int_int ⟨.int i,H,I,⟨_,rfl⟩,q⟩
 ·obtain⟨u,rfl,r1⟩:=vals1 r
  cases r1
  exact call_int_bool ⟨.int (if k then 1 else 0),H,I.tok _,⟨_,rfl⟩,q⟩
theorem pJ:vR X (.type "str") (fun xs H Q=>∃i,xs=[.int i]∧i.natAbs.log2 < 1920∧Q (.str (toString i)) H):=by
 intro pins s σ H xs us Q I r h
 obtain⟨i,rfl,hz,q⟩:=h
 obtain⟨u,rfl,t,rfl⟩:=vals1 r
 exact PySem.P.str_of_int hz ⟨.str _,H,I.tok _,⟨_,rfl⟩,q⟩
noncomputable def V3 (K:PySem.W.Frag) (x:V) (H:Hp) (n:Nat):Prop:=
 match x with
 | .str y=>y.length≤sizeLine∧n=y.length
 | .byt y=>y.size≤sizeLine∧n=y.size
 | .ref p=>(∃xs,qC K H p xs∧n=xs.length)∨∃xs,kU K H p xs∧n=xs.length
 | _=>False
end
end L2
namespace L2
open PySem PySem.Spec PyProof.Rows
structure sf (h:Heap) (x dx C:Addr) (mA:Str→Option Value):Prop where
 obj:h.get? x=some (PySem.W.instObj C dx)
 ns:h.Ns1 dx mA
 ne:dx≠x
theorem oy {h:Heap} {dx:Addr} {mA:Str→Option Value} (n:h.Ns1 dx mA):∃od,h.get? dx=some od∧∀name,PySem.W.lookIn name od=some (mA name):=by
 obtain⟨o,es,ep,ho,hd,hk,_,hm⟩:=n
 refine⟨o,ho,fun name=>?_⟩
 have e:=hm name
 unfold nsFind findBy at e
 rw[←Array.find?_toList] at e
 unfold PySem.W.lookIn
 rw[hd]
 dsimp only
 split
 ·rename_i y q
  rw[q] at e
  exact congrArg some e
 ·rename_i q
  rw[q] at e
  have a:es.toList.any (·.refKey)=false:=by
   rw[List.any_eq_false]
   intro y hy
   obtain⟨z,t,hkey⟩:=hk y (Array.mem_toList_iff.mp hy)
   simp [DictEntry.refKey,hkey]
  have a':¬es.toList.any (·.refKey)=true:=by rw[a];exact Bool.false_ne_true
  rw[if_neg a']
  exact congrArg some e
theorem sf.look {h:Heap} {x dx C:Addr} {mA:Str→Option Value} (I:sf h x dx C mA):∃od,PySem.W.InstAt h x (PySem.W.instObj C dx) C (some od)∧∀name,PySem.W.lookIn name od=some (mA name):=
 let ⟨od,ho,hl⟩:=oy I.ns
 ⟨od,⟨I.obj,rfl,rfl,ho⟩,hl⟩
section
variable {prog:Program} {w:World} {A:Around} {E:Value→Shared→Prop} {s:Shared} {K:PySem.W.Frag} {x dx C f:Addr} {mA:Str→Option Value} {name:Str} {v:Value}
theorem get_map {expr:Bool} {Q:Value→Shared→Prop} (X:K.In s.heap) (I:sf s.heap x dx C mA) (hg:PySem.W.plainGet K C name=true) (hh:PySem.W.hasDictIn K C=true)
  (ha:PySem.W.findIn K (.ref C) name=some none) (hv:mA name=some v) (hv':PySem.W.handedIn v=true) (h:Q v { s with toks:=s.toks + 1 }) :
  wpAny (model prog w) A (getAttr (.ref x) name expr) Q E s:=by
 obtain⟨od,J,hl⟩:=I.look
 exact PySem.W.get_value X J (PySem.W.plainGet_of hg).1 (PySem.W.findObj_own hh ha rfl (by rw[hl,hv])) hv' h
theorem iS {pl:Sem Bool} {Q:Value × List Value→Shared→Prop} (X:K.In s.heap) (I:sf s.heap x dx C mA) (hg:PySem.W.plainGet K C name=true)
  (hf:PySem.W.findIn K (.ref C) name=some (some (.ref f))) (ht:PySem.W.isFn K (.ref f)=true) (hv:mA name=none) (h:Q (.ref f,[.ref x]) s) :
  wpAny (model prog w) A (getMethod (.ref x) name pl) Q E s:=by
 obtain⟨od,J,hl⟩:=I.look
 exact PySem.W.method_fn X J (PySem.W.plainGet_of hg).1 (PySem.W.plainGet_of hg).2 hf (beq_iff_eq.mp ht) (by show (PySem.W.lookIn name od).map (·.isSome)=some false;rw[hl,hv];rfl) h
theorem ZP {ns:List Str} {Q:Unit→Shared→Prop} (X:K.In s.heap) (I:sf s.heap x dx C mA)
  (hs:PySem.W.findIn K (.ref C) "__setattr__" = some (some (.builtin "object.__setattr__"))) (hp:PySem.W.plainOver K C=true) (ht:PySem.W.takerIn K C name=some none) (hh:PySem.W.hasDictIn K C=true)
  (hw:PySem.Within mA ns) (hsz:ns.length≤sizeLine)
  (h:∀h',sf h' x dx C (fun y=>if y=name then some v else mA y)→Heap.SameBut dx s.heap h'→Q () { s with heap:=h',toks:=s.toks + 2 }) :
  wpAny (model prog w) A (setAttr (.ref x) name v) Q E s:=by
 obtain⟨od,J,hl⟩:=I.look
 refine PySem.W.set_plain X J hs (PySem.W.osa_open (s:={ s with toks:=s.toks + 1 }) (r:=none) X J hp ht fun b=>?_)
 obtain⟨cd,hc,hd'⟩:=PySem.W.any_some hh
 have hx:s.heap.get? x=some ⟨.ref C,some dx,.plain,#[]⟩:=I.obj
 refine wpAny_bind (wpAny_pure (wpAny_bind (wpAny_bind (wpAny_loadPart hx (wpAny_bind (PySem.W.Looks.here (s:={ s with toks:=s.toks + 1 }) (PySem.W.looks_clsIn X hc) ?_))))))
 rw[hd']
 refine wpAny_pure (a:=some dx) (wpAny_bind (wpAny_pure (wpAny_bind ?_)))
 refine wpAny_nsSet1 (s:={ s with toks:=s.toks + 1 }) I.ns fun h' hn2 hs2=>?_
 obtain⟨oD,esD,epD,hoD,hdD,hcD⟩:=hn2.count (PySem.Within.cons name v hw)
 refine wpAny_bind (wpAny_lookBehind hoD (by rw[hdD];exact pastItsLine_dict (Nat.le_trans hcD (by rw[List.length_cons];omega))) ?_)
 exact wpAny_pure (h _ ⟨(hs2.2 _ (Ne.symm I.ne)).trans I.obj,hn2,I.ne⟩ hs2)
theorem i7 {R:Result→Shared→Prop} {vs:List Value} {kw:List (Str × Value)} (X:K.In s.heap) (hm:PySem.W.makesIn K C=true)
  (hi:PySem.W.findIn K (.ref C) "__init__" = some (some (.ref f))) (hf:PySem.W.typeIn K (.ref f)=some (.type "function"))
  (h:codeAny (model prog w) (A.under (.builtin "type.__call__" ⟨.ref C :: vs,kw⟩)) (.call (.ref f) ⟨.ref (s.heap.objs.size + 1) :: vs,kw⟩) (PySem.W.InitBack (s.heap.objs.size + 1) R)
   { s with heap:=(s.heap.push PySem.W.emptyDict).push (PySem.W.instObj C s.heap.objs.size) }) :
  codeAny (model prog w) A (.call (.ref C) ⟨vs,kw⟩) R s:=by
 obtain⟨hh,g,d,t,os⟩:=s
 exact PySem.W.make_core (PySem.W.makes_of X hm) (PySem.W.looks_findIn X hi) (fun self=>PySem.W.bind_fn X self hf) (.inl rfl) h
end
noncomputable def qR (f:Str) (v:V):List (Str × V)→List (Str × V)
 | []=>[(f,v)]
 | (g,x) :: r=>if g=f then (g,v) :: r else (g,x) :: qR f v r
theorem mx (f g:Str) (v:V):∀fs:List (Str × V),(qR f v fs).lookup g=if g=f then some v else fs.lookup g
 | []=>by
  show List.lookup g [(f,v)]=_
  by_cases h:g=f
  ·have hb:(g == f)=true:=beq_iff_eq.mpr h
   simp only[List.lookup,hb,if_pos h]
  ·have hb:(g == f)=false:=beq_eq_false_iff_ne.mpr h
   simp only[List.lookup,hb,if_neg h]
 | (k,x) :: r=>by
  have ih:=mx f g v r
  rw[show qR f v ((k,x) :: r)=(if k=f then (k,v) :: r else (k,x) :: qR f v r) from rfl]
  by_cases hk:k=f
  ·rw[if_pos hk]
   by_cases h:g=k
   ·have hb:(g == k)=true:=beq_iff_eq.mpr h
    simp only[List.lookup,hb,if_pos (h.trans hk)]
   ·have hb:(g == k)=false:=beq_eq_false_iff_ne.mpr h
    simp only[List.lookup,hb,if_neg (fun e:g=f=>h (e.trans hk.symm))]
  ·rw[if_neg hk]
   by_cases h:g=k
   ·have hb:(g == k)=true:=beq_iff_eq.mpr h
    simp only[List.lookup,hb,if_neg (fun e:g=f=>hk (h.symm.trans e))]
   ·have hb:(g == k)=false:=beq_eq_false_iff_ne.mpr h
    simp only[List.lookup,hb]
    exact ih
theorem fH (f:Str) (v:V):∀fs:List (Str × V),f∈(qR f v fs).map (·.1)∧∀g,g∈fs.map (·.1)→g∈(qR f v fs).map (·.1)
 | []=>⟨by simp [qR],fun g h=>by simp at h⟩
 | (k,x) :: r=>by
  obtain⟨i1,i2⟩:=fH f v r
  rw[show qR f v ((k,x) :: r)=(if k=f then (k,v) :: r else (k,x) :: qR f v r) from rfl]
  by_cases hk:k=f
  ·rw[if_pos hk]
   subst hk
   exact⟨by simp,fun g h=>by simpa using h⟩
  ·rw[if_neg hk]
   refine⟨?_,fun g h=>?_⟩
   ·rw[List.map_cons]
    exact List.mem_cons_of_mem _ i1
   ·rw[List.map_cons] at h ⊢
    rcases List.mem_cons.mp h with e | e
    ·exact List.mem_cons.mpr (.inl e)
    ·exact List.mem_cons_of_mem _ (i2 g e)
theorem xM (f:Str) (v:V):∀fs:List (Str × V),(qR f v fs).length≤fs.length + 1
 | []=>by simp [qR]
 | (k,x) :: r=>by
  have ih:=xM f v r
  rw[show qR f v ((k,x) :: r)=(if k=f then (k,v) :: r else (k,x) :: qR f v r) from rfl]
  by_cases hk:k=f
  ·rw[if_pos hk,List.length_cons,List.length_cons];omega
  ·rw[if_neg hk,List.length_cons,List.length_cons];omega
theorem dj.some_of {v:V} {o:Option Value} (r:dj (some v) o):∃u,o=some u∧RelV v u:=by
 cases o with
 | none=>exact(show False from r).elim
 | some u=>exact⟨u,rfl,r⟩
theorem dj.none_of {o:Option Value} (r:dj none o):o=none:=by
 cases o with
 | none=>rfl
 | some u=>exact(show False from r).elim
theorem nI {v:V} {u:Value} (r:RelV v u):PySem.W.handedIn u=true:=by
 cases v with
 | non=>cases (show u=Value.none from r);rfl
 | bl b=>cases (show u=Value.bool b from r);rfl
 | int i=>obtain⟨t,e⟩:=(show ∃t,u=Value.int i t from r);cases e;rfl
 | str x=>obtain⟨t,e⟩:=(show ∃t,u=Value.str x t from r);cases e;rfl
 | byt b=>obtain⟨t,e⟩:=(show ∃t,u=Value.bytes b t from r);cases e;rfl
 | flt b=>obtain⟨t,e⟩:=(show ∃t,u=Value.float b t from r);cases e;rfl
 | ref a=>cases (show u=Value.ref a from r);rfl
 | ty n=>cases (show u=Value.type n from r);rfl
section
variable {P:Program} {w:World} {H H':Hp} {h h':Heap} {a C dx:Addr} {fs fs':List (Str × V)}
theorem mR (jG:mZ P w H h) (e:H a=some (.ins C dx fs)):∃mA,sf h a dx C mA∧(∀f,dj (fs.lookup f) (mA f))∧PySem.Within mA (fs.map (·.1))∧fs.length≤1000∧H dx=some (.own a):=by
 obtain⟨d,z,ne,ob,mA,n,r,q⟩:=(show kr P w H h a (.ins C dx fs) from jG a _ e)
 exact⟨mA,⟨ob,n,ne⟩,r,q,z,d⟩
end
structure mY (K:PySem.W.Frag) (C:Addr):Prop where
 pg:PySem.W.plainGet K C Str.empty=true
 hd:PySem.W.hasDictIn K C=true
 po:PySem.W.plainOver K C=true
 sa:PySem.W.findIn K (.ref C) "__setattr__" = some (some (.builtin "object.__setattr__"))
theorem mY.get {K:PySem.W.Frag} {C:Addr} (c:mY K C) (f:Str):PySem.W.plainGet K C f=true:=c.pg
noncomputable def qK (K:PySem.W.Frag) (C:Addr) (f:Str):Prop:=PySem.W.findIn K (.ref C) f=some none
theorem qK.XC {K:PySem.W.Frag} {C:Addr} {f:Str} (n:qK K C f):PySem.W.takerIn K C f=some none:=by
 unfold PySem.W.takerIn
 rw[show PySem.W.findIn K (.ref C) f=some none from n]
 rfl
structure VO (K:PySem.W.Frag) (C:Addr) (f:Str) (v:V) (u:Value):Prop where
 at_:PySem.W.findIn K (.ref C) f=some (some u)
 rel:RelV v u
 get:PySem.W.specialIn K u "__get__" = some none
 cp:PySem.W.copiedNames.contains f=false
structure Meth (K:PySem.W.Frag) (C:Addr) (m:Str) (f:Addr):Prop where
 at_:PySem.W.findIn K (.ref C) m=some (some (.ref f))
 fn:PySem.W.isFn K (.ref f)=true
 kp:PySem.W.keepIn K (.ref f)=true
section
variable {X:Cx} {pins:List (Addr × Obj)} {σ:St} {H:Hp} {s:Shared} {a C dx:Addr} {fs:List (Str × V)} {f:Str} {v:V} {A:Around} {E:Value→Shared→Prop}
theorem sJ {b:Bool} {Q:Value→Shared→Prop} (I:Inv X pins σ H s) (e:H a=some (.ins C dx fs)) (c:mY X.K C) (n:qK X.K C f) (l:fs.lookup f=some v)
  (h:∀u s',Inv X pins σ H s'→RelV v u→Q u s'):wpAny (model X.prog X.w) A (getAttr (.ref a) f b) Q E s:=by
 obtain⟨mA,O,r,_,_,_⟩:=mR I.jG e
 obtain⟨u,hu,ru⟩:=dj.some_of (v:=v) (o:=mA f) (by rw[←l];exact r f)
 exact get_map I.fe O (c.get f) c.hd n hu (nI ru) (h u _ (I.tok _) ru)
theorem bO {m:Str} {g:Addr} {pl:Sem Bool} {Q:Value × List Value→Shared→Prop} (I:Inv X pins σ H s) (e:H a=some (.ins C dx fs)) (c:mY X.K C) (k:Meth X.K C m g) (l:fs.lookup m=none)
  (h:Q (.ref g,[.ref a]) s):wpAny (model X.prog X.w) A (getMethod (.ref a) m pl) Q E s:=by
 obtain⟨mA,O,r,_,_,_⟩:=mR I.jG e
 have hn:mA m=none:=dj.none_of (by rw[←l];exact r m)
 exact iS I.fe O (c.get m) k.at_ k.fn hn h
theorem tu {y:V} {u:Value} {Q:Unit→Shared→Prop} (I:Inv X pins σ H s) (e:H a=some (.ins C dx fs)) (c:mY X.K C) (n:qK X.K C f) (hl:fs.length < 1000) (ry:RelV y u)
  (h:∀s',Inv X pins σ (upd H a (.ins C dx (qR f y fs))) s'→Q () s'):wpAny (model X.prog X.w) A (setAttr (.ref a) f u) Q E s:=by
 obtain⟨mA,O,r,wi,_,ho⟩:=mR I.jG e
 have hz:(fs.map (·.1)).length≤sizeLine:=by rw[List.length_map,sizeLine_eq];omega
 refine ZP I.fe O c.sa c.po n.XC c.hd wi hz fun h' O' sb=>h _ ?_
 have hd:∃o,h'.get? dx=some o:=let ⟨o,_,_,e',_⟩:=O'.ns;⟨o,e'⟩
 refine I.write (x:=a) (e:=dx) (by rw[e];exact True.intro) (.inr ho) (fun b q hb z=>(sb.2 b hb).trans z) hd ?_
 refine⟨by rw[qY O.ne];exact ho,?_,O.ne,O'.obj,_,O'.ns,fun g=>?_,fun g hg=>?_⟩
 ·have:=xM f y fs;omega
 ·show dj ((qR f y fs).lookup g) (if g=f then some u else mA g)
  rw[mx]
  by_cases q:g=f
  ·rw[if_pos q,if_pos q];exact ry
  ·rw[if_neg q,if_neg q];exact r g
 ·by_cases q:g=f
  ·rw[q];exact(fH f y fs).1
  ·refine(fH f y fs).2 g (wi g fun z=>hg ?_)
   show (if g=f then some u else mA g)=none
   rw[if_neg q];exact z
theorem Inv.made (I:Inv X pins σ H s):Inv X pins σ (upd (upd H s.heap.objs.size (.own (s.heap.objs.size + 1))) (s.heap.objs.size + 1) (.ins C s.heap.objs.size []))
  { s with heap:=(s.heap.push PySem.W.emptyDict).push (PySem.W.instObj C s.heap.objs.size) }:=by
 have e1:(s.heap.push PySem.W.emptyDict).get? s.heap.objs.size=some PySem.W.emptyDict:=Heap.get?_push_size s.heap rfl
 have e2:((s.heap.push PySem.W.emptyDict).push (PySem.W.instObj C s.heap.objs.size)).get? (s.heap.objs.size + 1)=some (PySem.W.instObj C s.heap.objs.size):=by
  have:=Heap.get?_push_size (s.heap.push PySem.W.emptyDict) (o:=PySem.W.instObj C s.heap.objs.size) rfl
  rwa [Heap.size_push] at this
 have e3:(s.heap.push PySem.W.emptyDict).Ns s.heap.objs.size (fun _=>none):=⟨PySem.W.emptyDict,#[],_,e1,rfl,(fun e he=>absurd he (by simp)),fun _=>rfl⟩
 have I1:=I.laid (a:=s.heap.objs.size) (o:=.own (s.heap.objs.size + 1)) (h':=s.heap.push PySem.W.emptyDict) (t':=s.toks) (fun b u q=>Heap.get?_push_of_some _ q) (Nat.le_refl _) ⟨_,e1⟩
 refine I1.laid (a:=s.heap.objs.size + 1) (o:=.ins C s.heap.objs.size []) (t':=s.toks) (fun b u q=>Heap.get?_push_of_some _ q) (Nat.le_of_eq (Heap.size_push _ _)) ?_
 have ne:s.heap.objs.size≠s.heap.objs.size + 1:=Nat.ne_of_lt (Nat.lt_succ_self _)
 refine⟨by rw[qY ne,qg],Nat.zero_le _,ne,e2,fun _=>none,(Heap.Ns1.of_empty e3).at fun o q=>Heap.get?_push_of_some _ q,fun _=>True.intro,fun y hy=>absurd rfl hy⟩
theorem aI {prog:Program} {w:World} {env:Env} {e:Expr} {f:Str} {pos:Pos} {s:Shared} {Q:Value→Shared→Prop} (hb:attributeBase e f env (eval e env)=eval e env)
  (h:wpAny (model prog w) A (eval e env) (fun o s₁=>wpAny (model prog w) A (getAttr o f true) Q E s₁) E s):wpAny (model prog w) A (eval (.Attribute e f pos) env) Q E s:=
 Attribute_any_ h (by rw[arm_eval_Attribute,hb])
end
noncomputable def K7 (K:PySem.W.Frag) (ta:TE) (f:Str):TE:=fun σ H Q=>ta σ H fun x H1=>∃a C dx fs v,x=.ref a∧H1 a=some (.ins C dx fs)∧mY K C∧qK K C f∧fs.lookup f=some v∧Q v H1
noncomputable def WX (K:PySem.W.Frag) (ta:TE) (f:Str):TE:=fun σ H Q=>ta σ H fun x H1=>∃a C dx fs v u,x=.ref a∧H1 a=some (.ins C dx fs)∧mY K C∧VO K C f v u∧fs.lookup f=none∧Q v H1
noncomputable def KL (K:PySem.W.Frag) (ta tv:TE) (f:Str):TS:=fun D σ H=>tv σ H fun y H1=>ta σ H1 fun x H2=>∃a C dx fs,x=.ref a∧H2 a=some (.ins C dx fs)∧mY K C∧qK K C f∧fs.length < 1000∧
 D.nx σ (upd H2 a (.ins C dx (qR f y fs)))
noncomputable def V0 (X:Cx) (op:Operator) (rd:V→V→Hp→VK→Prop):Prop:=
 ∀(pins:List (Addr × Obj)) (s:Shared) (σ:St) (H:Hp) (x y:V) (u v:Value) (Q:VK),Inv X pins σ H s→RelV x u→RelV y v→rd x y H Q→wpAny (model X.prog X.w) X.A (inplaceOp op u v) (EP X pins σ Q) X.xe s
noncomputable def X3 (K:PySem.W.Frag) (ta tv:TE) (rd:V→V→Hp→VK→Prop) (f:Str):TS:=fun D σ H=>ta σ H fun x H1=>∃a C dx fs v,x=.ref a∧H1 a=some (.ins C dx fs)∧mY K C∧qK K C f∧fs.lookup f=some v∧
 tv σ H1 fun y H2=>rd v y H2 fun z H3=>∃dx' fs',H3 a=some (.ins C dx' fs')∧fs'.length < 1000∧D.nx σ (upd H3 a (.ins C dx' (qR f z fs')))
section
variable {X:Cx} {o e value:Expr} {f:Str} {pos pos' tpos:Pos} {ta tv:TE}
theorem QO (he:PE X e ta) (hb:attributeBase e f X.env (eval e X.env)=eval e X.env):PE X (.Attribute e f pos) (K7 X.K ta f):=by
 intro pins s σ H Q I h
 refine aI hb (xy (he pins s σ H _ I h) fun u s1 ⟨x,H1,I1,rx,a,C,dx,fs,v,ex,ea,c,n,l,q⟩=>?_)
 subst ex
 obtain rfl:u=Value.ref a:=rx
 exact sJ I1 ea c n l fun u' s2 I2 ru=>⟨v,H1,I2,ru,q⟩
theorem kj (ha:PE X o ta) (hv:PE X value tv) (hs:swapsWith value (some (.Attribute o f pos')) pos.line X.env=pure false):PS X (.Assign [.Attribute o f pos'] value pos) (KL X.K ta tv f):=by
 intro pins s σ H D I h
 refine plainObj_wpAny_Assign_Attribute (xy (hv pins s σ H _ I h) fun u s1 ⟨y,H1,I1,ry,q⟩=>xy (ha pins s1 σ H1 _ I1 q) fun ov s2 ⟨x,H2,I2,rx,a,C,dx,fs,ex,ea,c,n,l,q2⟩=>?_) hs
 subst ex
 obtain rfl:ov=Value.ref a:=rx
 exact tu I2 ea c n l ry fun s3 I3=>⟨σ,_,I3,q2⟩
noncomputable def Wu:V→V→Hp→VK→Prop:=fun x y H Q=>∃i j,x=.int i∧y=.int j∧Q (.int (i + j)) H
noncomputable def We:V→V→Hp→VK→Prop:=fun x y H Q=>∃i j,x=.int i∧y=.int j∧Q (.int (i - j)) H
theorem Z8 {pl:Sem Bool} {m:Str} {apos:Pos} {args:List Expr} {pins:List (Addr × Obj)} {s:Shared} {σ:St} {H:Hp} {Q:Value→Shared→Prop} {te:TE} (he:PE X e te) (I:Inv X pins σ H s)
  (h:te σ H fun x H1=>∃a C dx fs g,x=.ref a∧H1 a=some (.ins C dx fs)∧mY X.K C∧Meth X.K C m g∧fs.lookup m=none∧
   ∀s1,Inv X pins σ H1 s1→wpAny (model X.prog X.w) X.A (callWith pos (.ref g) [.ref a] (backTo pos (starEach args X.env)) (backToKw pos (keywordEach [] X.env))) Q X.xe s1)
  (ht:eval (.Call (.Attribute e m apos) args [] pos) X.env=(do
   let ov ←eval e X.env
   standAt apos.atName
   let (f,first) ←holding [ov] (getMethod ov m pl)
   callWith pos f first (backTo pos (starEach args X.env)) (backToKw pos (keywordEach [] X.env)))) :
  wpAny (model X.prog X.w) X.A (eval (.Call (.Attribute e m apos) args [] pos) X.env) Q X.xe s:=by
 refine PySem.W.methodCall_KW (pl:=pl) (xy (he pins s σ H _ I h) fun u s1 ⟨x,H1,I1,rx,a,C,dx,fs,g,ex,ea,c,k,l,q⟩=>?_) ht
 subst ex
 obtain rfl:u=Value.ref a:=rx
 exact bO I1 ea c k l (q s1 I1)
end
section
variable {X:Cx} {pins:List (Addr × Obj)} {σ:St} {H:Hp} {s:Shared} {A:Around} {E:Value→Shared→Prop} {Q:Value→Shared→Prop} {c:Value} {b:Bool}
inductive kx (K:PySem.W.Frag) (H:Hp):V→Value→Prop where
 | non:kx K H .non (.type "NoneType")
 | bl (x:Bool):kx K H (.bl x) (.type "bool")
 | int (i:Int):kx K H (.int i) (.type "int")
 | str (x:Str):kx K H (.str x) (.type "str")
 | flt (x:UInt64):kx K H (.flt x) (.type "float")
 | lst {a:Addr} {xs:List V} (e:H a=some (.lst xs)):kx K H (.ref a) (.type "list")
 | frz {a:Addr} {o:Obj} {xs:List V} (e:H a=some (.frz o (.lst xs))):kx K H (.ref a) (.type "list")
 | tup {a:Addr} {xs:List V} (e:H a=some (.tup xs)):kx K H (.ref a) (.type "tuple")
 | dK {a:Addr} {kvs:List (Key × V)} (e:H a=some (.dK kvs)):kx K H (.ref a) (.type "dict")
 | dT {a:Addr} {kvs:List (List Key × V)} (e:H a=some (.dT kvs)):kx K H (.ref a) (.type "dict")
 | ins {a C dx:Addr} {fs:List (Str × V)} (e:H a=some (.ins C dx fs)) (cl:mY K C) (ha:PySem.W.findIn K (.ref C) "__class__" = some (some (.builtin "object.__class__")))
   (hn:PySem.W.specialIn K (.builtin "object.__class__") "__get__" = some (some (.builtin "getset_descriptor.__get__"))) (fY:PySem.W.takesIn K (.builtin "object.__class__")=some true)
   (hm:PySem.W.mroIn K C (.type "object")=some true):kx K H (.ref a) (.ref C)
theorem oz {x:V} {u t:Value} (I:Inv X pins σ H s) (rx:RelV x u) (ty:kx X.K H x t) (e:PySem.W.kitOne X.K t c=some b) (h:∀tk,Q (.bool b) { s with toks:=tk }) :
  wpAny (model X.prog X.w) A (call (.builtin "isinstance") [u,c]) Q E s:=by
 cases ty with
 | non=>cases (show u=Value.none from rx);exact PySem.W.kia_one PySem.W.kitx_none I.fe True.intro e (fun z=>nomatch z) h
 | bl y=>cases (show u=Value.bool y from rx);exact PySem.W.kia_one PySem.W.kitx_bool I.fe True.intro e (fun z=>nomatch z) h
 | int i=>obtain⟨t,q⟩:=(show ∃t,u=Value.int i t from rx);cases q;exact PySem.W.kia_one PySem.W.kitx_int I.fe True.intro e (fun z=>nomatch z) h
 | str y=>obtain⟨t,q⟩:=(show ∃t,u=Value.str y t from rx);cases q;exact PySem.W.kia_one PySem.W.kitx_str I.fe True.intro e (fun z=>nomatch z) h
 | flt y=>obtain⟨t,q⟩:=(show ∃t,u=Value.float y t from rx);cases q;exact PySem.W.kia_one PySem.W.kitx_float I.fe True.intro e (fun z=>nomatch z) h
 | @lst a xs ea=>
  cases (show u=Value.ref a from rx)
  obtain⟨_,_,n,_,h1⟩:=(show kr X.prog X.w H s.heap a (.lst xs) from I.jG a _ ea)
  exact PySem.W.kia_one PySem.W.kitx_list I.fe ⟨_,h1,rfl⟩ e (fun z=>nomatch z) h
 | @frz a ob xs ea=>
  cases (show u=Value.ref a from rx)
  obtain⟨_,_,_,n,_,h1⟩:=(show kr X.prog X.w H s.heap a (.frz ob (.lst xs)) from I.jG a _ ea)
  exact PySem.W.kia_one PySem.W.kitx_list I.fe ⟨_,h1,rfl⟩ e (fun z=>nomatch z) h
 | @tup a xs ea=>
  cases (show u=Value.ref a from rx)
  obtain⟨_,_,_,p⟩:=(show kr X.prog X.w H s.heap a (.tup xs) from I.jG a _ ea)
  obtain⟨o,h1,h2,_⟩:=p
  exact PySem.W.kia_one PySem.W.kitx_tuple I.fe ⟨o,h1,h2⟩ e (fun z=>nomatch z) h
 | @dK a kvs ea=>
  cases (show u=Value.ref a from rx)
  obtain⟨_,_,vs,_,p⟩:=(show kr X.prog X.w H s.heap a (.dK kvs) from I.jG a _ ea)
  obtain⟨o,es,ep,h1,h2,_⟩:=p
  exact PySem.W.kia_one PySem.W.kitx_dict I.fe ⟨o,h1,h2.1⟩ e (fun z=>nomatch z) h
 | @dT a kvs ea=>
  cases (show u=Value.ref a from rx)
  obtain⟨_,_,xs,_,o,es,ep,h1,h2,_⟩:=(show kr X.prog X.w H s.heap a (.dT kvs) from I.jG a _ ea)
  exact PySem.W.kia_one PySem.W.kitx_dict I.fe ⟨o,h1,h2.1⟩ e (fun z=>nomatch z) h
 | @ins a C dx fs ea cl ha hn fY hm=>
  cases (show u=Value.ref a from rx)
  obtain⟨mA,O,_⟩:=mR I.jG ea
  obtain⟨od,J,_⟩:=O.look
  exact PySem.W.kia_one (PySem.W.kitx_own (cl.get _) cl.hd ha hn fY hm) I.fe J e (fun z=>nomatch z) h
end
end L2
namespace L2
open PySem PySem.Spec PyProof.Rows
structure vy (k:Nat) (A:Around):Prop where
 hd:A.handled=none
 dp:A.depth + 3 * k + 5 < recursionLimit
 un:A.units + 16 * k + 200 < cLine
theorem vy.mono {j k:Nat} {A:Around} (r:vy k A) (h:j≤k):vy j A:=⟨r.hd,by have:=r.dp;omega,by have:=r.un;omega⟩
theorem vy.deeper {k:Nat} {A:Around} (r:vy (k + 1) A) (env:Env):vy k (A.deeper env):=
 ⟨r.hd,by have:=r.dp;show A.depth + 1 + 3 * k + 5 < _;omega,by have:=r.un;show A.units + 3 + 16 * k + 200 < _;omega⟩
theorem sY {A:Around} {C:Addr} {us:List Value} {kw:List (Str × Value)}:(A.under (.builtin "type.__call__" ⟨.ref C :: us,kw⟩)).depth=A.depth + 1:=by
 first | rfl | simp [Around.under,Code.weight,Code.isCreation,Code.isGuard,Code.isCaller,Code.frames,Code.isFrame,guardIds]
theorem sH {A:Around} {C:Addr} {us:List Value} {kw:List (Str × Value)}:(A.under (.builtin "type.__call__" ⟨.ref C :: us,kw⟩)).units=A.units + 1:=by
 first | rfl | simp [Around.under,Code.cUnits,Code.frames,Code.isFrame]
theorem vy.make {k:Nat} {A:Around} (r:vy (k + 1) A) (C:Addr) (us:List Value) (kw:List (Str × Value)):vy k (A.under (.builtin "type.__call__" ⟨.ref C :: us,kw⟩)):=
 ⟨r.hd,by have:=r.dp;rw[sY];omega,by have:=r.un;rw[sH];omega⟩
theorem vy.depth {k:Nat} {A:Around} (r:vy k A):A.depth < recursionLimit:=by have:=r.dp;omega
theorem vy.units {k:Nat} {A:Around} (r:vy k A):A.units + 64 < cLine:=by have:=r.un;omega
noncomputable def XX:TA:=fun _ H Q=>Q [] H
noncomputable def Xi (ta:TE) (tr:TA):TA:=fun σ H Q=>ta σ H fun x H1=>tr σ H1 fun xs H2=>Q (x :: xs) H2
section
variable {X:Cx} {e:Expr} {es:List Expr} {te:TE} {t:TA} {pos:Pos}
theorem z6:PA X [] XX:=fun _ _ _ _ H Q I h=>Calls.spliced_nil ⟨[],H,I,.nil,h⟩
theorem z0 (ha:PE X e te) (hr:PA X es t) (hs:starEach (e :: es) X.env=(false,eval e X.env) :: starEach es X.env:=by rfl):PA X (e :: es) (Xi te t):=by
 intro pos pins s σ H Q I h
 rw[hs]
 show wpAny _ _ (spliced ((false,eval e X.env) :: backTo pos (starEach es X.env))) _ _ s
 refine Calls.spliced_cons (xy (ha pins s σ H _ I h) fun u s1 ⟨x,H1,I1,r1,q1⟩=>?_)
 exact xy (hr pos pins s1 σ H1 _ I1 q1) fun us s2 ⟨xs,H2,I2,r2,q2⟩=>⟨x :: xs,H2,I2,.cons r1 r2,q2⟩
noncomputable def Vg (t:TA):TE:=fun σ H Q=>t σ H fun xs H1=>xs.length≤sizeLine∧∀p,H1 p=none→Q (.ref p) (upd H1 p (.tup xs))
noncomputable def Vz (t:TA):TE:=fun σ H Q=>t σ H fun xs H1=>xs.length≤sizeLine∧∀p,H1 p=none→Q (.ref p) (upd H1 p (.lst xs))
theorem Q0 {x1} (h:PA X es t):PE X (.Tuple es x1 pos) (Vg t):=by
 intro pins s σ H Q I hq
 refine wpAny_Tuple_spliced (xy (h pos pins s σ H _ I hq) fun us s1 ⟨xs,H1,I1,r,z,q⟩=>⟨by rw[←r.length];exact z,?_⟩)
 have hf:H1 s1.heap.objs.size=none:=I1.jG.fresh (Nat.le_refl _)
 refine⟨.ref s1.heap.objs.size,upd H1 s1.heap.objs.size (.tup xs),I1.laid (t':=s1.toks) (fun b u e=>Heap.get?_push_of_some _ e) (Nat.le_refl _) ?_,rfl,q _ hf⟩
 exact⟨z,us,r,⟨_,Heap.get?_push_size _ rfl,rfl,_,rfl⟩⟩
theorem QI (h:PA X es t):PE X (.List es pos) (Vz t):=by
 intro pins s σ H Q I hq
 refine wpAny_List_spliced (xy (h pos pins s σ H _ I hq) fun us s1 ⟨xs,H1,I1,r,z,q⟩=>⟨by rw[←r.length];exact z,?_⟩)
 have hf:H1 s1.heap.objs.size=none:=I1.jG.fresh (Nat.le_refl _)
 refine⟨.ref s1.heap.objs.size,upd H1 s1.heap.objs.size (.lst xs),I1.laid (t':=s1.toks) (fun b u e=>Heap.get?_push_of_some _ e) (Nat.le_refl _) ?_,rfl,q _ hf⟩
 exact⟨z,us,0,r,Heap.get?_push_size _ rfl⟩
end
noncomputable abbrev Sp:=List V→Hp→VK→XK→Prop
noncomputable abbrev d9:=List Env→Hp→Shared→XK→Value→Shared→Prop
structure u7 (P:Program) (w:World) (K:PySem.W.Frag) (mg:Str→Option Value) (base:Heap) (A:Around) (outer:List Env) (s:Shared) (H:Hp):Prop where
 frames:A.frames=some outer
 mod:Mod K mg base
 bs:∀b o,base.get? b=some o→s.heap.get? b=some o∧H b=none
 oA:base.objs.size≤s.heap.objs.size
 mJ:s.heap.FunFrames base outer
 QZ:∀b∈o8 outer,H b=none
 jG:mZ P w H s.heap
 bare:AllBare s.gens
noncomputable def CE (outer:List Env) (P:Program) (w:World) (H:Hp) (s:Shared) (Q:VK) (u:Value) (s':Shared):Prop:=
 ∃v H',s'.os=s.os∧AllBare s'.gens∧Un (o8 outer) [] H H' s.heap s'.heap∧mZ P w H' s'.heap∧RelV v u∧Q v H'
noncomputable def CR (CX:d9) (outer:List Env) (P:Program) (w:World) (H:Hp) (s:Shared) (Q:VK) (E:XK) (r:Result) (s':Shared):Prop:=
 match r with
 | .ok (.ret u)=>CE outer P w H s Q u s'
 | .ok _=>False
 | .error e=>CX outer H s E e s'
structure qJ (P:Program) (w:World) (K:PySem.W.Frag) (mg:Str→Option Value) (base:Heap) (CX:d9) (k:Nat) (f:Addr) (fd:FuncData) (ps:List Str) (sp:Sp):Prop where
 len:∀vs H Q E,sp vs H Q E→vs.length=ps.length
 run:∀(A:Around) (outer:List Env) (s:Shared) (H:Hp) (args:Args) (us:List Value) (vs:List V) (Q:VK) (E:XK),vy k A→u7 P w K mg base A outer s H→BindsTo s fd args (ps.zip us)→Vals vs us→sp vs H Q E→
  codeAny (model P w) A (.call (.ref f) args) (CR CX outer P w H s Q E) s
theorem qJ.mono {P:Program} {w:World} {K:PySem.W.Frag} {mg:Str→Option Value} {base:Heap} {CX:d9} {j k:Nat} {f:Addr} {fd:FuncData} {ps:List Str} {sp:Sp} (F:qJ P w K mg base CX j f fd ps sp) (h:j≤k) :
  qJ P w K mg base CX k f fd ps sp:=⟨F.len,fun A outer s H args us vs Q E hr=>F.run A outer s H args us vs Q E (hr.mono h)⟩
theorem u7.make {P:Program} {w:World} {K:PySem.W.Frag} {mg:Str→Option Value} {base:Heap} {A:Around} {outer:List Env} {s:Shared} {H:Hp} (e:u7 P w K mg base A outer s H) (C:Addr) (us:List Value) (kw:List (Str × Value)) :
  u7 P w K mg base (A.under (.builtin "type.__call__" ⟨.ref C :: us,kw⟩)) outer s H:=⟨by first | exact e.frames | (simpa [Around.under,Code.envs,Code.isFrame,pushEnvs] using e.frames),e.mod,e.bs,e.oA,e.mJ,e.QZ,e.jG,e.bare⟩
section
variable {X:Cx} {pins:List (Addr × Obj)} {σ:St} {H:Hp} {s s':Shared}
theorem Inv.JB (I:Inv X pins σ H s):u7 X.prog X.w X.K X.mg X.base X.A X.stack s H:=
 ⟨I.ok.frames,I.ok.mod,I.bs,Nat.le_trans I.ok.oA I.sz,I.stack,I.uO,I.jG,I.bare⟩
theorem Inv.after {Q:VK} {u:Value} (I:Inv X pins σ H s) (h:CE X.stack X.prog X.w H s Q u s'):EP X pins σ Q u s':=by
 obtain⟨v,H',os,bare,un,jG,r,q⟩:=h
 obtain⟨hh,g,d,t,os'⟩:=s'
 obtain rfl:os'=s.os:=os
 exact⟨v,H',I.call (h':=hh) (g':=g) (d':=d) (t':=t) (ch:=[]) un jG bare (fun b z=>absurd z (by simp)),r,q⟩
end
noncomputable def Qw (sp:Sp) (dvs:List V) (E:XK) (t:TA):TE:=fun σ H Q=>t σ H fun vs H1=>sp (vs ++ dvs) H1 Q E
noncomputable def VC (C:Addr) (m:Str) (sp:Sp) (dvs:List V) (E:XK) (ta:TE) (t:TA):TE:=fun σ H Q=>ta σ H fun x H1=>∃a dx fs,x=.ref a∧H1 a=some (.ins C dx fs)∧fs.lookup m=none∧
 t σ H1 fun vs H2=>sp (x :: (vs ++ dvs)) H2 Q E
noncomputable def XZ (C:Addr) (sp:Sp) (dvs:List V) (E:XK) (t:TA):TE:=fun σ H Q=>t σ H fun vs H1=>∀x dx,H1 x=none→H1 dx=none→dx≠x→
 sp (.ref x :: (vs ++ dvs)) (upd (upd H1 dx (.own x)) x (.ins C dx [])) (fun v H2=>v=.non∧Q (.ref x) H2) E
noncomputable def Binds (K:PySem.W.Frag) (fd:FuncData) (ps:List Str) (ds:List Value):Prop:=
 ∀(s:Shared) (us:List Value),K.In s.heap→(us ++ ds).length=ps.length→BindsTo s fd ⟨us,[]⟩ (ps.zip (us ++ ds))
theorem Binds.all {K:PySem.W.Frag} {fd:FuncData} {ps:List Str} (h:∀us:List Value,us.length=ps.length→bindArgs fd ⟨us,[]⟩=pure (ps.zip us)):Binds K fd ps []:=fun s us _ hl=>by
 rw[List.append_nil] at hl ⊢
 exact .of_eq (h us hl)
noncomputable def Passes (CX:d9) (X:Cx) (E:XK):Prop:=∀(pins:List (Addr × Obj)) (σ:St) (H:Hp) (s:Shared) (e:Value) (s':Shared),Inv X pins σ H s→CX X.stack H s E e s'→X.xe e s'
section
variable {X:Cx} {CX:d9} {k:Nat} {f C:Addr} {fd:FuncData} {ps:List Str} {sp:Sp} {dvs:List V} {ds:List Value} {E:XK} {x m:Str} {p pos apos:Pos} {e o:Expr} {es:List Expr} {ta:TE} {t:TA}
theorem uM {pins:List (Addr × Obj)} {σ:St} {H:Hp} {s:Shared} {Q:VK} {us:List Value} {vs:List V} (F:qJ X.prog X.w X.K X.mg X.base CX k f fd ps sp) (hr:vy k X.A) (hb:Binds X.K fd ps ds) (hd:Vals dvs ds) (hx:Passes CX X E)
  (I:Inv X pins σ H s) (r:Vals vs us) (h:sp (vs ++ dvs) H Q E):wpAny (model X.prog X.w) X.A (call (.ref f) us) (EP X pins σ Q) X.xe s:=by
 have r2:Vals (vs ++ dvs) (us ++ ds):=r.append hd
 have hl:(us ++ ds).length=ps.length:=by rw[←r2.length];exact F.len _ _ _ _ h
 refine wpAny_call (codeAny_mono (F.run X.A X.stack s H ⟨us,[]⟩ (us ++ ds) (vs ++ dvs) Q E hr I.JB (hb s us I.fe hl) r2 h) fun r s' hq=>?_)
 cases r with
 | error e=>exact hx pins σ H s e s' I hq
 | ok fl=>
  cases fl with
  | ret u=>exact I.after hq
  | next=>exact False.elim hq
  | brk=>exact False.elim hq
  | cont=>exact False.elim hq
theorem qe (F:qJ X.prog X.w X.K X.mg X.base CX k f fd ps sp) (hr:vy k X.A) (hg:Gl X x) (hm:X.mg x=some (.ref f)) (hk:PySem.W.keepIn X.K (.ref f)=true) (hb:Binds X.K fd ps ds) (hd:Vals dvs ds) (hx:Passes CX X E)
  (ha:PA X (e :: es) t) (hdb:(x == ("__debug__" : Str))=false:=by decide) (he:starEach (e :: es) X.env=(false,eval e X.env) :: starEach es X.env:=by rfl) (hpl:(backTo pos (starEach es X.env)).any (·.1)=false:=by rfl) :
  PE X (.Call (.Name x p) (e :: es) [] pos) (Qw sp dvs E t):=by
 intro pins s σ H Q I h
 refine wpAny_Call_Name_kw (mL I hg hm ?_ hdb)
 refine PySem.W.callWith_K (h₀:=X.base) I.ok.mod.Jd hk (xy (ha pos pins s σ H _ I h) fun us s1 ⟨vs,H1,I1,r,q⟩=>⟨I1.fe,?_⟩) he hpl
 exact uM F hr hb hd hx I1 r q
structure Mk (K:PySem.W.Frag) (C f:Addr):Prop where
 makes:PySem.W.makesIn K C=true
 init:PySem.W.findIn K (.ref C) "__init__" = some (some (.ref f))
 fn:PySem.W.isFn K (.ref f)=true
 kp:PySem.W.keepIn K (.ref C)=true
theorem ah {pins:List (Addr × Obj)} {σ:St} {H:Hp} {s:Shared} {Q:VK} {us:List Value} {vs:List V} (M:Mk X.K C f) (F:qJ X.prog X.w X.K X.mg X.base CX k f fd ps sp) (hr:vy (k + 1) X.A) (hb:Binds X.K fd ps ds) (hd:Vals dvs ds)
  (hx:Passes CX X E) (I:Inv X pins σ H s) (r:Vals vs us)
  (h:∀x dx,H x=none→H dx=none→dx≠x→sp (.ref x :: (vs ++ dvs)) (upd (upd H dx (.own x)) x (.ins C dx [])) (fun v H2=>v=.non∧Q (.ref x) H2) E) :
  wpAny (model X.prog X.w) X.A (call (.ref C) us) (EP X pins σ Q) X.xe s:=by
 have hq:=h (s.heap.objs.size + 1) s.heap.objs.size (I.jG.fresh (Nat.le_succ _)) (I.jG.fresh (Nat.le_refl _)) (Nat.ne_of_lt (Nat.lt_succ_self _))
 have I2:=Inv.made (C:=C) I
 have r2:Vals (V.ref (s.heap.objs.size + 1) :: (vs ++ dvs)) (Value.ref (s.heap.objs.size + 1) :: (us ++ ds)):=.cons rfl (r.append hd)
 have hl:(Value.ref (s.heap.objs.size + 1) :: us ++ ds).length=ps.length:=by
  have e:=r2.length
  rw[F.len _ _ _ _ hq] at e
  exact e.symm
 refine wpAny_call (i7 (f:=f) I.fe M.makes M.init (beq_iff_eq.mp M.fn) (codeAny_mono (F.run _ X.stack _ _ ⟨Value.ref (s.heap.objs.size + 1) :: us,[]⟩ (Value.ref (s.heap.objs.size + 1) :: (us ++ ds)) _ _ E (hr.make C us [])
  (I2.JB.make C us []) (hb _ (Value.ref (s.heap.objs.size + 1) :: us) I2.fe hl) r2 hq) fun r s' hq'=>?_))
 cases r with
 | error e=>exact hx pins σ _ _ e s' I2 hq'
 | ok fl=>
  cases fl with
  | ret u=>
   obtain⟨v,H',I3,rv,ev,q3⟩:=I2.after hq'
   subst ev
   exact⟨rv,⟨V.ref (s.heap.objs.size + 1),H',I3,rfl,q3⟩⟩
  | next=>exact False.elim hq'
  | brk=>exact False.elim hq'
  | cont=>exact False.elim hq'
theorem x8 (M:Mk X.K C f) (F:qJ X.prog X.w X.K X.mg X.base CX k f fd ps sp) (hr:vy (k + 1) X.A) (hg:Gl X x) (hm:X.mg x=some (.ref C)) (hb:Binds X.K fd ps ds) (hd:Vals dvs ds) (hx:Passes CX X E)
  (ha:PA X (e :: es) t) (hdb:(x == ("__debug__" : Str))=false:=by decide) (he:starEach (e :: es) X.env=(false,eval e X.env) :: starEach es X.env:=by rfl) (hpl:(backTo pos (starEach es X.env)).any (·.1)=false:=by rfl) :
  PE X (.Call (.Name x p) (e :: es) [] pos) (XZ C sp dvs E t):=by
 intro pins s σ H Q I h
 refine wpAny_Call_Name_kw (mL I hg hm ?_ hdb)
 refine PySem.W.callWith_K (h₀:=X.base) I.ok.mod.Jd M.kp (xy (ha pos pins s σ H _ I h) fun us s1 ⟨vs,H1,I1,r,q⟩=>⟨I1.fe,?_⟩) he hpl
 exact ah M F hr hb hd hx I1 r q
end
noncomputable def PK (X:Cx) (kws:List Keyword) (t:TA):Prop:=
 ∀(pos:Pos) (pins:List (Addr × Obj)) (s:Shared) (σ:St) (H:Hp) (Q:List V→Hp→Prop),Inv X pins σ H s→t σ H Q→wpAny (model X.prog X.w) X.A (evalAll ((backToKw pos (keywordEach kws X.env)).map (·.2))) (AP X pins σ Q) X.xe s
section
variable {X:Cx} {CX:d9} {k:Nat} {f C:Addr} {fd:FuncData} {ps ks:List Str} {sp:Sp} {E:XK} {x m:Str} {p pos apos kpos:Pos} {e o:Expr} {es:List Expr} {kws:List Keyword} {te ta:TE} {t tk:TA} {nm:Option Str}
structure Kk (K:PySem.W.Frag) (fd:FuncData) (ps ks:List Str) (g:List Value→List Value→List Value) (gV:List V→List V→List V):Prop where
 to:∀(s:Shared) (us ws:List Value),K.In s.heap→(g us ws).length=ps.length→BindsTo s fd ⟨us,ks.zip ws⟩ (ps.zip (g us ws))
 rel:∀{vs:List V} {us:List Value} {zs:List V} {ws:List Value},Vals vs us→Vals zs ws→Vals (gV vs zs) (g us ws)
noncomputable def KA (sp:Sp) (gV:List V→List V→List V) (E:XK) (t tk:TA):TE:=fun σ H Q=>t σ H fun vs H1=>tk σ H1 fun zs H2=>sp (gV vs zs) H2 Q E
variable {g:List Value→List Value→List Value} {gV:List V→List V→List V}
end
structure qX (N P:List Str) (sc:Scope):Prop where
 kind:sc.kind=.function
 co:sc.isCoroutine=false
 gen:sc.isGenerator=false
 nd:N.Nodup
 pre:N.take P.length=P
 par:∀x∈P,sc.names.lookup x=some .local∨sc.names.lookup x=some .cell
 QC:∀y∈sc.names,y.2≠.free
theorem cH {kindOf:Str→Option NameKind} {x:Str}:∀{binds:List (Str × Value)} {m:Str→Option Value},(∀v,(x,v)∉binds)→bindL kindOf binds m x=m x
 | [],_,_=>rfl
 | (n,v) :: r,m,h=>by
  unfold bindL
  rw[cH fun w hw=>h w (List.mem_cons_of_mem _ hw)]
  split
  ·have:x≠n:=by rintro rfl;exact h v List.mem_cons_self
   simp [this]
  ·rfl
theorem cY {kindOf:Str→Option NameKind} {x:Str}:∀{binds:List (Str × Value)} {m:Str→Option Value},(∀v,(x,v)∉binds)→bindC kindOf binds m x=m x
 | [],_,_=>rfl
 | (n,v) :: r,m,h=>by
  unfold bindC
  rw[cY fun w hw=>h w (List.mem_cons_of_mem _ hw)]
  split
  ·rfl
  ·have:x≠n:=by rintro rfl;exact h v List.mem_cons_self
   simp [this]
theorem cG {kindOf:Str→Option NameKind} {x:Str} {v:Value}:∀{P:List Str} {vs:List Value} {i:Nat} {m:Str→Option Value},P.Nodup→P[i]?=some x→vs[i]?=some v→kindOf x=some .local→
  bindL kindOf (P.zip vs) m x=some v
 | [],_,_,_,_,h,_,_=>by simp at h
 | _ :: _,[],_,_,_,_,h,_=>by simp at h
 | p :: P,w :: vs,0,m,nd,h1,h2,hk=>by
  simp at h1 h2;subst h1;subst h2
  show bindL kindOf ((p,w) :: P.zip vs) m p=_
  unfold bindL
  rw[cH fun v hv=>(List.nodup_cons.mp nd).1 (List.of_mem_zip hv).1,if_pos hk]
  simp
 | p :: P,w :: vs,i + 1,m,nd,h1,h2,hk=>by
  show bindL kindOf ((p,w) :: P.zip vs) m x=_
  unfold bindL
  exact cG (i:=i) (List.nodup_cons.mp nd).2 (by simpa using h1) (by simpa using h2) hk
theorem cW {kindOf:Str→Option NameKind} {x:Str} {v:Value}:∀{P:List Str} {vs:List Value} {i:Nat} {m:Str→Option Value},P.Nodup→P[i]?=some x→vs[i]?=some v→kindOf x≠some .local→
  bindC kindOf (P.zip vs) m x=some v
 | [],_,_,_,_,h,_,_=>by simp at h
 | _ :: _,[],_,_,_,_,h,_=>by simp at h
 | p :: P,w :: vs,0,m,nd,h1,h2,hk=>by
  simp at h1 h2;subst h1;subst h2
  show bindC kindOf ((p,w) :: P.zip vs) m p=_
  unfold bindC
  rw[cY fun v hv=>(List.nodup_cons.mp nd).1 (List.of_mem_zip hv).1,if_neg hk]
  simp
 | p :: P,w :: vs,i + 1,m,nd,h1,h2,hk=>by
  show bindC kindOf ((p,w) :: P.zip vs) m x=_
  unfold bindC
  exact cW (i:=i) (List.nodup_cons.mp nd).2 (by simpa using h1) (by simpa using h2) hk
noncomputable def start (N:List Str) (vs:List V):St:=vs.map some ++ List.replicate (N.length - vs.length) none
noncomputable def nS (CX:d9) (P:Program) (w:World) (K:PySem.W.Frag) (mg:Str→Option Value) (base:Heap) (N:List Str) (qual:Str) (scope:Scope) (f:Addr) (cd:Value) (A:Around) (outer:List Env) (s:Shared) (H:Hp) (E:XK):Cx where
 prog:=P
 w:=w
 K:=K
 mg:=mg
 base:=base
 A:=A.deeper (envOfC qual scope s.heap.objs.size f cd)
 N:=N
 s₀:=s
 H₀:=H
 env:=envOfC qual scope s.heap.objs.size f cd
 outer:=outer
 stack:=envOfC qual scope s.heap.objs.size f cd :: outer
 ex:=[]
 calm:=true
 fn:=fun _=>true
 pn:=[]
 xe:=fun e s'=>wpAny (model P w) (A.deeper (envOfC qual scope s.heap.objs.size f cd)) (leaving (envOfC qual scope s.heap.objs.size f cd) e) (fun _ s''=>CX outer H s E e s'') (fun e' s''=>CX outer H s E e' s'') s'
theorem rq {sc:Scope} {n:Nat} {x:Str} (h:sc.names.lookup x=some .cell):∃c,(cellsFrom n sc.names []).lookup x=some c:=by
 have q:=PySem.W.cellsFrom_some sc.names n [] (.inl h)
 exact Option.isSome_iff_exists.mp q
theorem nA {CX:d9} {P:Program} {w:World} {K:PySem.W.Frag} {mg:Str→Option Value} {base:Heap} {N ps:List Str} {qual:Str} {scope:Scope} {f:Addr} {cd:Value} {A:Around} {outer:List Env} {s s1:Shared} {H:Hp} {E:XK} {us:List Value} {vs:List V}
  (S:qX N ps scope) (hd:A.handled=none) (e0:u7 P w K mg base A outer s H) (hl:vs.length=ps.length) (r:Vals vs us)
  (x:InCallC s s.heap.objs.size (bindL (envOfC qual scope s.heap.objs.size f cd).kindOf (ps.zip us) fun _=>none) (cellsFrom (s.heap.objs.size + 1) scope.names []) (bindC (envOfC qual scope s.heap.objs.size f cd).kindOf (ps.zip us) fun _=>none) s1) :
  Inv (nS CX P w K mg base N qual scope f cd A outer s H E) [] (start N vs) H s1:=by
 have hpl:ps.length≤N.length:=by have:=congrArg List.length S.pre;rw[List.length_take] at this;omega
 obtain⟨h1,tk,rfl,hk⟩:=x.done
 have noA:∀b:Addr,b∉(nS CX P w K mg base N qual scope f cd A outer s H E).ex:=fun b z=>absurd (show b∈([]:List Addr) from z) (by simp)
 refine⟨⟨e0.mod,S.kind,rfl,rfl,Nat.le_refl _,fun y z c h1 h2=>?_,fun y hy=>?_,fun y c _ h=>?_,fun _=>hd,Around.frames_deeper e0.frames,.inr ⟨rfl,rfl⟩,fun b z=>absurd z (noA b),e0.bs,e0.oA,fun b _ _=>noA b,fun b z=>absurd z (noA b),e0.mJ,e0.QZ⟩,
  rfl,e0.bare,Un.kept hk,⟨_,x.toInCall.ns,fun i y v h1 h2 h3=>?_⟩,fun y c h=>⟨_,x.cell y c h⟩,e0.jG.fresh (Nat.le_refl _),fun y c h=>?_,fun p hp=>absurd (show p∈([]:List (Addr × Obj)) from hp) (by simp),e0.jG.kept hk,?_⟩
 ·exact name_of_addr x.apart (PySem.mem_of_lookup h1) (PySem.mem_of_lookup h2)
 ·have hy:scope.names.lookup y=some .cell∨scope.names.lookup y=some .free:=hy
  rcases hy with hy | hy
  ·exact rq hy
  ·exact absurd rfl (S.QC _ (PySem.mem_of_lookup hy))
 ·exact Nat.le_of_lt (x.above y c (PySem.mem_of_lookup h))
 ·have hi:i < vs.length:=by
   unfold start at h2
   by_cases hi:i < vs.length
   ·exact hi
   ·rw[List.getElem?_append_right (by simpa using hi)] at h2
    rw[List.getElem?_replicate] at h2
    split at h2<;>cases h2
  have ha:vs[i]?=some v:=by
   unfold start at h2
   rw[List.getElem?_append_left (by simpa using hi),List.getElem?_map] at h2
   cases e:vs[i]? with
   | none=>rw[e] at h2;cases h2
   | some a=>rw[e] at h2;cases h2;rfl
  obtain⟨u,hu,rv⟩:=r.get ha
  have hp:ps[i]?=some y:=by
   rw[←S.pre,List.getElem?_take_of_lt (by omega)];exact h1
  have ndP:ps.Nodup:=by rw[←S.pre];exact S.nd.sublist (List.take_sublist _ _)
  refine⟨u,rv,?_⟩
  rcases S.par y (List.mem_of_getElem? hp) with k | k
  ·exact .inl ⟨k,cG ndP hp hu k⟩
  ·obtain⟨c,e⟩:=rq (n:=s.heap.objs.size + 1) k
   refine .inr ⟨.inl k,c,e,?_⟩
   have q:=x.cell y c e
   rw[cW ndP hp hu (by show scope.names.lookup y≠_;rw[k];decide)] at q
   exact q
 ·exact e0.jG.fresh (Nat.le_of_lt (x.above y c (PySem.mem_of_lookup h)))
 ·unfold start
  show _=N.length
  rw[List.length_append,List.length_map,List.length_replicate]
  omega
theorem JU {CX:d9} {P:Program} {w:World} {K:PySem.W.Frag} {mg:Str→Option Value} {base:Heap} {k:Nat} {f:Addr} {name qual:Str} {params:Arguments} {body:List Stmt} {scope:Scope} {dV kV doc pm cdv ct oc:Value} {an od:Option Addr}
  {osl:Array (Option Value)} {N ps:List Str} {sp:Sp} (lk:K.lookup f=some ⟨oc,od,.func (PySem.W.fnOf name qual params body scope dV kV doc pm an cdv ct),osl⟩) (hcd:PySem.W.codeIn K cdv qual=true) (S:qX N ps scope)
  (len:∀vs H Q E,sp vs H Q E→vs.length=ps.length)
  (hbody:∀(A:Around) (outer:List Env) (s:Shared) (H:Hp) (vs:List V) (Q:VK) (E:XK),vy k (A.deeper (envOfC qual scope s.heap.objs.size f cdv))→sp vs H Q E→
   ∃t,sk (nS CX P w K mg base N qual scope f cdv A outer s H E) body t∧t { nx:=fun _ H'=>Q .non H',rt:=Q } (start N vs) H) :
  qJ P w K mg base CX (k + 1) f (PySem.W.fnOf name qual params body scope dV kV doc pm an cdv ct) ps sp:=by
 refine⟨len,fun A outer s H args us vs Q E hr e0 hb r hsp=>?_⟩
 have hl:=len _ _ _ _ hsp
 have KX:K.In s.heap:=e0.mod.Jd.keeps fun b o e=>(e0.bs b o e).1
 have lim:s.heap.NoLimit:=e0.mod.nolimit.keeps fun b o e=>(e0.bs b o e).1
 have hkind:∀y∈ps.zip us,scope.names.lookup y.1=some .local∨(scope.names.lookup y.1=some .cell∧((cellsFrom (s.heap.objs.size + 1) scope.names []).lookup y.1).isSome=true):=fun ⟨n,v⟩ hy=>by
  rcases S.par n (List.of_mem_zip hy).1 with q | q
  ·exact .inl q
  ·exact .inr ⟨q,PySem.W.cellsFrom_some _ _ _ (.inl q)⟩
 refine codeAny_call_function hr.depth (KX _ _ lk) rfl S.co S.gen rfl (PySem.W.codeRec_of KX hcd) (hb _ _ _ _ ?_)
 refine wpAny_newFunctionEnv_cells S.kind hkind fun env he s1 x=>?_
 subst he
 refine⟨lim.keeps x.toInCall.keep,codeAny_func ?_⟩
 obtain⟨t,ht,hq⟩:=hbody A outer s H vs Q E (hr.deeper _) hsp
 have I:Inv (nS CX P w K mg base N qual scope f cdv A outer s H E) [] (start N vs) H s1:=nA S hr.hd e0 hl r x
 refine wpAny_mono (ht [] s1 (start N vs) H _ I hq) (fun fl s' hs=>?_) fun e s' hs=>hs
 have fin:∀{σ':St} {H':Hp} {v:V} {u:Value},Inv (nS CX P w K mg base N qual scope f cdv A outer s H E) [] σ' H' s'→RelV v u→Q v H'→CE outer P w H s Q u s':=
  fun {σ' H' v u} J rv q=>⟨v,H',J.os,J.bare,J.base,J.jG,rv,q⟩
 cases fl with
 | ret u=>
  obtain⟨v,σ',H',J,rv,q⟩:=hs
  exact fin J rv q
 | next=>
  obtain⟨σ',H',J,q⟩:=hs
  exact fin (v:=V.non) (u:=Value.none) J rfl q
 | brk=>
  obtain⟨_,_,_,q⟩:=hs
  exact False.elim q
 | cont=>
  obtain⟨_,_,_,q⟩:=hs
  exact False.elim q
end L2
namespace L2
open PySem PySem.Spec PyProof.Rows
section
variable {X:Cx} {x:Str} {p pos:Pos} {e:Expr} {es:List Expr} {t:TA} {id T:String} {r:List V→Hp→VK→Prop}
noncomputable def VP (r:List V→Hp→VK→Prop) (t:TA):TE:=fun σ H Q=>t σ H fun vs H1=>r vs H1 Q
theorem qU (hc:vR X (.builtin id) r) (hg:Gl X x) (hm:X.mg x=none) (hv:bootBuiltins x=some (.builtin id)) (ha:PA X (e :: es) t) (hn:x≠"__name__":=by decide) (hdb:(x == ("__debug__" : Str))=false:=by decide)
  (he:starEach (e :: es) X.env=(false,eval e X.env) :: starEach es X.env:=by rfl) (hpl:(backTo pos (starEach es X.env)).any (·.1)=false:=by rfl):PE X (.Call (.Name x p) (e :: es) [] pos) (VP r t):=by
 intro pins s σ H Q I h
 refine wpAny_Call_Name_kw (fP I hg hm hv ?_ hn hdb)
 exact PyProof.Rows.callWith_builtin1 (xy (ha pos pins s σ H _ I h) fun us s1 ⟨vs,H1,I1,r1,q1⟩=>hc pins s1 σ H1 vs us Q I1 r1 q1) he hpl
theorem jH (hc:vR X (.type T) r) (hg:Gl X x) (hm:X.mg x=none) (hv:bootBuiltins x=some (.type T)) (ha:PA X (e :: es) t) (hn:x≠"__name__":=by decide) (hdb:(x == ("__debug__" : Str))=false:=by decide)
  (he:starEach (e :: es) X.env=(false,eval e X.env) :: starEach es X.env:=by rfl) (hpl:(backTo pos (starEach es X.env)).any (·.1)=false:=by rfl):PE X (.Call (.Name x p) (e :: es) [] pos) (VP r t):=by
 intro pins s σ H Q I h
 refine wpAny_Call_Name_kw (fP I hg hm hv ?_ hn hdb)
 exact PyProof.Rows.callWith_type1 (xy (ha pos pins s σ H _ I h) fun us s1 ⟨vs,H1,I1,r1,q1⟩=>hc pins s1 σ H1 vs us Q I1 r1 q1) he hpl
end
end L2
namespace HT
open PySem PyProof.Rows
noncomputable def lexLt:List Int→List Int→Bool
 | [],[]=>false
 | [],_ :: _=>true
 | _ :: _,[]=>false
 | x :: xs,y :: ys=>if x=y then lexLt xs ys else decide (x < y)
section
open PySem.SeqAt
open PySem.AutoSeq1 (wpAny_loadPart')
open PySem.MeetsSeq PySem.MeetsSeq2 PySem.MeetsSeq3
end
section
variable {prog:Program} {w:World} {A:Around} {E:Value→Shared→Prop} {s:Shared}
noncomputable def uD (n d:Nat):Option Int→Nat
 | none=>d
 | some v=>if v < 0 then (v + (n:Int)).toNat else min v.toNat n
theorem lK (n d:Nat):uD n d none=d:=rfl
theorem wH (n d k:Nat):uD n d (some (k:Int))=min k n:=by
 show (if (k:Int) < 0 then ((k:Int) + (n:Int)).toNat else min (k:Int).toNat n)=min k n
 rw[if_neg (by omega),Int.toNat_natCast]
end
end HT
namespace L2
open PySem PySem.Spec PyProof.Rows
noncomputable abbrev TO:=St→Hp→(Option Int→Hp→Prop)→Prop
noncomputable def PO (X:Cx) (e:Option Expr) (t:TO):Prop:=
 ∀(pins:List (Addr × Obj)) (s:Shared) (σ:St) (H:Hp) (Q:Option Int→Hp→Prop),Inv X pins σ H s→t σ H Q→
  wpAny (model X.prog X.w) X.A (evalPart e X.env) (fun u s'=>∃o H',Inv X pins σ H' s'∧IsPart u o∧Q o H') X.xe s
noncomputable def ZR:TO:=fun _ H Q=>Q none H
noncomputable def XY (t:TE):TO:=fun σ H Q=>t σ H fun x H1=>∃i,x=.int i∧Q (some i) H1
section
variable {X:Cx} {e:Expr} {te:TE} {lo hi:Option Expr} {tl th:TO} {pos p2:Pos}
theorem nX:PO X none ZR:=by
 intro pins s σ H Q I h
 rw[evalPart_none]
 exact wpAny_pure ⟨none,H,I,.none,h⟩
theorem vx (h:PE X e te):PO X (some e) (XY te):=by
 intro pins s σ H Q I hw
 rw[evalPart_some]
 refine xy (h pins s σ H _ I hw) fun u s1 ⟨x,H1,I1,r1,q1⟩=>?_
 obtain⟨i,rfl,q⟩:=q1
 obtain⟨t,rfl⟩:=r1
 exact⟨some i,H1,I1,.int i t,q⟩
noncomputable def Qm (X:Cx) (r:V→Option Int→Option Int→Hp→VK→Prop):Prop:=
 ∀(pins:List (Addr × Obj)) (s:Shared) (σ:St) (H:Hp) (x:V) (v vl vu:Value) (lo hi:Option Int) (sl:Addr) (Q:VK),Inv X pins σ H s→RelV x v→s.heap.IsSliceOf sl vl vu .none→IsPart vl lo→IsPart vu hi→r x lo hi H Q→
  ∃T id,typeLookup (.type T) "__getitem__" = pure (some (.builtin id))∧s.TypeIs v T∧wpAny (model X.prog X.w) X.A (getItem v (.ref sl)) (EP X pins σ Q) X.xe s
noncomputable def WD (r:V→Option Int→Option Int→Hp→VK→Prop) (te:TE) (tl th:TO):TE:=fun σ H Q=>te σ H fun x H1=>tl σ H1 fun l H2=>th σ H2 fun u H3=>r x l u H3 Q
theorem yr {r:V→Option Int→Option Int→Hp→VK→Prop} (hr:Qm X r) (he:PE X e te) (hl:PO X lo tl) (hu:PO X hi th):PE X (.Subscript e (.Slice lo hi none p2) pos) (WD r te tl th):=by
 intro pins s σ H Q I h
 refine Subscript_ (xy (he pins s σ H _ I h) fun v s1 ⟨x,H1,I1,r1,q1⟩=>?_)
 refine wpAny_Slice (xy (hl pins s1 σ H1 _ I1 q1) fun vl s2 ⟨l,H2,I2,pl,q2⟩=>xy (hu pins s2 σ H2 _ I2 q2) fun vu s3 ⟨u,H3,I3,pu,q3⟩=>?_)
 rw[evalPart_none]
 refine wpAny_pure ?_
 have I4:Inv X pins σ H3 { s3 with heap:=s3.heap.push { cls:=.type "slice",data:=.fields #[vl,vu,.none] } }:=I3.kept (t':=s3.toks) fun b ob q=>Heap.get?_push_of_some _ q
 obtain⟨T,id,hT,ht,hg⟩:=hr pins { s3 with heap:=s3.heap.push { cls:=.type "slice",data:=.fields #[vl,vu,.none] } } σ H3 x v vl vu l u s3.heap.objs.size Q I4 r1 (Heap.IsSliceOf.new ..) pl pu q3
 show wpAny (model X.prog X.w) X.A (subscriptTail e (.Slice lo hi none p2) v (.ref s3.heap.objs.size)) (EP X pins σ Q) X.xe { s3 with heap:=s3.heap.push { cls:=.type "slice",data:=.fields #[vl,vu,.none] } }
 exact tail_any (ops:=[.ref s3.heap.objs.size,v]) ht hT hg (by with_unfolding_all rfl)
noncomputable def wR (xs:List V) (lo hi:Option Int):List V:=(xs.drop (HT.uD xs.length 0 lo)).take (HT.uD xs.length xs.length hi - HT.uD xs.length 0 lo)
theorem rK (xs:List V) (lo hi:Option Int):(wR xs lo hi).length≤xs.length:=by
 unfold wR
 rw[List.length_take,List.length_drop]
 omega
noncomputable def Wi (K:PySem.W.Frag):V→Option Int→Option Int→Hp→VK→Prop:=fun x lo hi H Q=>∃a xs,x=.ref a∧kU K H a xs∧
 ¬(HT.uD xs.length 0 lo=0∧HT.uD xs.length xs.length hi=xs.length)∧∀p,H p=none→Q (.ref p) (upd H p (.tup (wR xs lo hi)))
noncomputable def Wl (K:PySem.W.Frag):R2:=fun x y H Q=>∃a b ns ms,x=.ref a∧y=.ref b∧kU K H a (ns.map V.int)∧kU K H b (ms.map V.int)∧Q (.bl (HT.lexLt ns ms)) H
noncomputable def VQ (K:PySem.W.Frag):R2:=fun x y H Q=>∃a b xs ys,x=.ref a∧y=.ref b∧kU K H a xs∧kU K H b ys∧xs≠[]∧xs.length + ys.length≤sizeLine∧
 (ys=[]→Q (.ref a) H)∧(ys≠[]→∀p,H p=none→Q (.ref p) (upd H p (.tup (xs ++ ys))))
end
end L2
namespace L2
open PySem PySem.Spec PyProof.Rows
noncomputable def o9 (n:Nat) (i:Int):Option Nat:=if 0≤i then (if i < n then some i.toNat else none) else if -(n:Int)≤i then some (i + n).toNat else none
noncomputable def f7 {α:Type} (xs:List α) (i:Int):Option α:=(o9 xs.length i).bind fun j=>xs[j]?
theorem nv {n:Nat} {i:Int} {j:Nat} (h:o9 n i=some j):seqIndex? i n=some j∧j < n∧-(n:Int)≤i∧i < n:=by
 unfold o9 at h
 by_cases h0:0≤i
 ·rw[if_pos h0] at h
  by_cases h1:i < n
  ·rw[if_pos h1] at h
   have e:i.toNat=j:=Option.some.inj h
   exact⟨by rw[seqIndex_of h0 h1,e],by omega,by omega,h1⟩
  ·rw[if_neg h1] at h;cases h
 ·rw[if_neg h0] at h
  by_cases h1:-(n:Int)≤i
  ·rw[if_pos h1] at h
   have e:(i + n).toNat=j:=Option.some.inj h
   exact⟨by rw[seqIndex_neg (by omega) h1,e],by omega,h1,by omega⟩
  ·rw[if_neg h1] at h;cases h
theorem uv {α:Type} {xs:List α} {i:Int} {v:α} (h:f7 xs i=some v):∃j,seqIndex? i xs.length=some j∧xs[j]?=some v∧j < xs.length∧-(xs.length:Int)≤i∧i < xs.length:=by
 unfold f7 at h
 cases e:o9 xs.length i with
 | none=>rw[e] at h;cases h
 | some j=>
  rw[e] at h
  obtain⟨h1,h2,h3,h4⟩:=nv e
  exact⟨j,h1,h,h2,h3,h4⟩
theorem gN {α:Type} {xs:List α} {j:Nat} {v:α} (h:xs[j]?=some v):f7 xs (j:Int)=some v:=by
 have hj:j < xs.length:=(List.getElem?_eq_some_iff.mp h).1
 have e:o9 xs.length (j:Int)=some j:=by
  unfold o9
  rw[if_pos (by omega),if_pos (by omega)];simp
 unfold f7;rw[e];exact h
theorem yx {α:Type} (xs:List α) (v:α):f7 (xs ++ [v]) (-1)=some v:=by
 have hl:(xs ++ [v]).length=xs.length + 1:=by simp
 have e:o9 (xs ++ [v]).length (-1)=some xs.length:=by
  unfold o9
  rw[hl,if_neg (by decide),if_pos (by omega)]
  congr 1
  omega
 unfold f7
 rw[e]
 show (xs ++ [v])[xs.length]?=some v
 simp
noncomputable def aS (b:Expr):Prop:=∀o i,subscripted b false o i=operate [o,i] (getItem o i)
noncomputable def Jy (X:Cx) (r:R2):Prop:=
 ∀(value slice:Expr) (pins:List (Addr × Obj)) (s:Shared) (σ:St) (H:Hp) (x y:V) (v u:Value) (Q:VK),Inv X pins σ H s→RelV x v→RelV y u→r x y H Q→
  subscripted slice false v u=operate [v,u] (getItem v u)→wpAny (model X.prog X.w) X.A (subscriptTail value slice v u) (EP X pins σ Q) X.xe s
noncomputable def sg (X:Cx) (id:String) (r:V→List V→Hp→VK→Prop):Prop:=
 ∀(pins:List (Addr × Obj)) (s:Shared) (σ:St) (H:Hp) (x:V) (xs:List V) (v:Value) (us:List Value) (Q:VK),Inv X pins σ H s→RelV x v→Vals xs us→r x xs H Q→
  wpAny (model X.prog X.w) X.A (call (.builtin id) (v :: us)) (EP X pins σ Q) X.xe s
section
variable {X:Cx} {a b:Expr} {ta tb:TE} {pos:Pos}
theorem qv {r:R2} (hr:Jy X r) (ha:PE X a ta) (hb:PE X b tb) (hs:aS b):PE X (.Subscript a b pos) (X8 r ta tb):=by
 intro pins s σ H Q I h
 exact Subscript_ (Qr ha hb I h fun v u s2 x y H2 I2 rx ry q=>hr a b pins s2 σ H2 x y v u Q I2 rx ry q (hs _ _))
noncomputable def Q6 (K:PySem.W.Frag):R2:=fun x y H Q=>∃p xs i v,x=.ref p∧y=.int i∧qC K H p xs∧f7 xs i=some v∧Q v H
noncomputable def Q7 (K:PySem.W.Frag):R2:=fun x y H Q=>∃p xs i v,x=.ref p∧y=.int i∧kU K H p xs∧f7 xs i=some v∧Q v H
noncomputable def Xx:R2:=fun x y H Q=>∃z i c,x=.str z∧y=.int i∧z.length≤sizeLine∧f7 z.cps.toList i=some c∧Q (.str ⟨#[c]⟩) H
theorem Zm:Jy X (Q6 X.K):=by
 intro value slice pins s σ H x y v u Q I rx ry h hs
 obtain⟨p,xs,i,z,rfl,rfl,hq,he,q⟩:=h
 cases rx
 obtain⟨t,rfl⟩:=ry
 obtain⟨its,r,pl,hz⟩:=I.list hq
 obtain⟨j,h1,h2,h3,h4,h5⟩:=uv he
 obtain⟨w,ew,rw'⟩:=r.get h2
 have hl:=r.length
 have hn:=dQ
 have fin:EP X pins σ Q w s:=⟨z,H,I,rw',q⟩
 by_cases h0:0≤i
 ·have hj:i.toNat=j:=by
   rw[seqIndex_of h0 h5] at h1
   exact Option.some.inj h1
  exact item_listR pl.isList h0 (by omega) (by rw[hj];simpa using ew) fin hs
 ·have hj:(i + (its.toArray.size:Int)).toNat=j:=by
   rw[seqIndex_neg (by omega) h4] at h1
   rw[List.size_toArray,←hl]
   exact Option.some.inj h1
  exact subscriptTail_builtinR (x:=w) pl.isList.typeIs slot_list_getitem.lookup
   (wpAny_getItem_list_neg (Q:=fun r s'=>r=w∧EP X pins σ Q r s') pl.isList (by omega) (by rw[List.size_toArray]<;>omega) (by omega) (by rw[hj];simpa using ew) ⟨rfl,fin⟩) hs
theorem QK:Jy X (Q7 X.K):=by
 intro value slice pins s σ H x y v u Q I rx ry h hs
 obtain⟨p,xs,i,z,rfl,rfl,hq,he,q⟩:=h
 cases rx
 obtain⟨t,rfl⟩:=ry
 obtain⟨its,r,pl,hz⟩:=I.tuple hq
 obtain⟨j,h1,h2,h3,h4,h5⟩:=uv he
 obtain⟨w,ew,rw'⟩:=r.get h2
 have hl:=r.length
 have hn:=dQ
 have fin:EP X pins σ Q w s:=⟨z,H,I,rw',q⟩
 exact subscriptTail_builtinR (x:=w) pl.typeIs slot_tuple_getitem.lookup
  (getItem_tuple (j:=j) (Q:=fun r s'=>r=w∧EP X pins σ Q r s') pl (by omega) (by omega) (by rw[List.size_toArray,←hl];exact h1) (by simpa using ew) ⟨rfl,fin⟩) hs
theorem bI:Jy X Xx:=by
 intro value slice pins s σ H x y v u Q I rx ry h hs
 obtain⟨z,i,c,rfl,rfl,hz,he,q⟩:=h
 obtain⟨t,rfl⟩:=rx
 obtain⟨t',rfl⟩:=ry
 obtain⟨j,h1,h2,h3,h4,h5⟩:=uv he
 have hl:z.cps.toList.length=z.length:=by simp [Str.length]
 rw[hl] at h1 h4 h5
 have hn:=dQ
 exact tail_any (typeIs_str s z t) slot_str_getitem.lookup (getItem_str (c:=c) (by
  have e1:decide (i < -(2 ^ 63:Int))=false:=decide_eq_false (by omega)
  have e2:decide (i≥2 ^ 63)=false:=decide_eq_false (by omega)
  rw[e1,e2,Bool.or_false]) (by rw[h1];simpa using h2) ⟨.str ⟨#[c]⟩,H,I.tok _,⟨_,rfl⟩,q⟩) hs
noncomputable def W9 (K:PySem.W.Frag):R2:=fun x y H Q=>Q6 K x y H Q∨Q7 K x y H Q∨Xx x y H Q
theorem sP (its:List Value) (n j:Nat) (u:Value):Obj.mapSeq (·.setIfInBounds j u) { cls:=.type "list",data:=.seq its.toArray n }={ cls:=.type "list",data:=.seq (its.set j u).toArray n }:=by
 simp [Obj.mapSeq]
theorem Inv.lst {pins:List (Addr × Obj)} {σ:St} {H:Hp} {s:Shared} {p:Addr} {xs:List V} (I:Inv X pins σ H s) (h:H p=some (.lst xs)) :
  ∃(its:List Value) (n:Nat),Vals xs its∧s.heap.get? p=some { cls:=.type "list",data:=.seq its.toArray n }∧xs.length≤sizeLine:=by
 obtain⟨z,its,n,r,e⟩:=I.jG p _ h
 exact⟨its,n,r,e,z⟩
theorem Inv.QH {pins:List (Addr × Obj)} {σ:St} {H:Hp} {s:Shared} {p:Addr} {xs ys:List V} {its its':List Value} {n n':Nat} {f:Obj→Obj} (I:Inv X pins σ H s) (h:H p=some (.lst xs))
  (ho:s.heap.get? p=some { cls:=.type "list",data:=.seq its.toArray n }) (hf:f { cls:=.type "list",data:=.seq its.toArray n }={ cls:=.type "list",data:=.seq its'.toArray n' }) (r:Vals ys its') (hz:ys.length≤sizeLine) (t:Nat) :
  Inv X pins σ (upd H p (.lst ys)) { s with heap:=s.heap.update p f,toks:=t }:=by
 have e:(s.heap.update p f).get? p=some { cls:=.type "list",data:=.seq its'.toArray n' }:=by
  rw[Heap.get?_update_self f ho (by rw[hf]<;>rfl),hf]
 refine I.write (x:=p) (e:=p) (by rw[h];trivial) (.inl rfl) (fun b u hb q=>(Heap.get?_update_other _ _ (Ne.symm hb)).trans q) ⟨_,e⟩ ?_
 exact⟨hz,its',n',r,e⟩
noncomputable def Xv:V→V→V→Hp→(Hp→Prop)→Prop:=fun o i v H Q=>∃p xs k j,o=.ref p∧i=.int k∧H p=some (.lst xs)∧o9 xs.length k=some j∧Q (upd H p (.lst (xs.set j v)))
theorem set_list:Qf X Xv:=by
 intro pins s σ H o i v ov iv u Q I ro ri rv h
 obtain⟨p,xs,k,j,rfl,rfl,hp,hj,q⟩:=h
 cases ro
 obtain⟨t,rfl⟩:=ri
 obtain⟨its,n,r,ho,hz⟩:=I.lst hp
 obtain⟨h1,h2,h3,h4⟩:=nv hj
 have hl:=r.length
 have hn:=dQ
 have I':Inv X pins σ (upd H p (.lst (xs.set j v))) { s with heap:=s.heap.update p (Obj.mapSeq (·.setIfInBounds j u)) }:=
  I.QH hp ho (sP its n j u) (r.set rv j) (by rw[List.length_set];exact hz) s.toks
 by_cases h0:0≤k
 ·have hk:k.toNat=j:=by
   rw[seqIndex_of h0 h4] at h1
   exact Option.some.inj h1
  exact PySem.W.ki_setAt ho h0 (by omega) (by rw[List.size_toArray,←hl];exact h4) (by rw[hk];exact⟨_,I',q⟩)
 ·have hk:(k + (its.toArray.size:Int)).toNat=j:=by
   rw[seqIndex_neg (by omega) h3] at h1
   rw[List.size_toArray,←hl]
   exact Option.some.inj h1
  exact PySem.W.ki_setBack ho (by omega) (by rw[List.size_toArray,←hl];exact h3) (by omega) (by rw[hk];exact⟨_,I',q⟩)
theorem uT (lo hi:Option Int) (n:Nat):(sliceBounds lo hi none n).1=((HT.uD n 0 lo:Nat):Int)∧(sliceBounds lo hi none n).2.1=((HT.uD n n hi:Nat):Int)∧(sliceBounds lo hi none n).2.2=1:=by
 refine⟨?_,?_,rfl⟩
 ·cases lo with
  | none=>simp [sliceBounds,HT.uD]
  | some i=>
   simp only[sliceBounds,HT.uD,Option.getD_none,show (1:Int) > 0 by decide,if_true]
   by_cases h:i < 0
   ·simp only[h,if_true]<;>omega
   ·simp only[h,if_false]<;>omega
 ·cases hi with
  | none=>simp [sliceBounds,HT.uD]
  | some i=>
   simp only[sliceBounds,HT.uD,Option.getD_none,show (1:Int) > 0 by decide,if_true]
   by_cases h:i < 0
   ·simp only[h,if_true]<;>omega
   ·simp only[h,if_false]<;>omega
theorem cQ (its:List Value) (lo hi:Option Int):slicePick its.toArray lo hi none=((its.drop (HT.uD its.length 0 lo)).take (HT.uD its.length its.length hi - HT.uD its.length 0 lo)).toArray:=by
 obtain⟨h1,h2,h3⟩:=uT lo hi its.toArray.size
 unfold slicePick
 rw[h1,h2,h3]
 simp only[sliceRange_one,pick_run,List.size_toArray]<;>rfl
noncomputable def KC (K:PySem.W.Frag):V→Option Int→Option Int→Hp→VK→Prop:=fun x lo hi H Q=>∃a xs,x=.ref a∧qC K H a xs∧∀p,H p=none→Q (.ref p) (upd H p (.lst (wR xs lo hi)))
theorem ZF:Qm X (KC X.K):=by
 intro pins s σ H x v vl vu lo hi sl Q I rx hs pl pu h
 obtain⟨a,xs,rfl,hx,q⟩:=h
 cases rx
 obtain⟨its,r,ht,hz⟩:=I.list hx
 have hlen:=r.length
 refine⟨"list",_,slot_list_getitem.lookup,ht.isList.typeIs,?_⟩
 refine wpAny_getItem_list_slice ht.isList hs pl pu .none (by simp) ?_ (by rw[List.size_toArray]<;>omega)
 rw[cQ,←hlen]
 refine⟨.ref s.heap.objs.size,_,I.laid (t':=s.toks) (o:=.lst (wR xs lo hi)) (fun b ob q=>Heap.get?_push_of_some _ q) (Nat.le_refl _) ?_,rfl,q _ (I.jG.fresh (Nat.le_refl _))⟩
 exact⟨Nat.le_trans (rK xs lo hi) hz,_,0,(r.drop (HT.uD xs.length 0 lo)).take (HT.uD xs.length xs.length hi - HT.uD xs.length 0 lo),Heap.get?_push_size _ rfl⟩
noncomputable def f9:V→Bool
 | .non=>true
 | .bl _=>true
 | .int _=>true
 | .str _=>true
 | _=>false
noncomputable def Zw:V→V→Bool
 | .non,.non=>true
 | .bl a,.bl b=>a == b
 | .bl a,.int b=>(if a then 1 else 0) == b
 | .int a,.bl b=>a == (if b then 1 else 0)
 | .int a,.int b=>a == b
 | .str a,.str b=>a == b
 | _,_=>false
theorem Qo {A:Around} {s:Shared} {y x:V} {u v:Value} (ry:RelV y u) (rx:RelV x v) (fy:f9 y=true) (fx:f9 x=true):SeqAt.EqAt A s u v (Zw y x):=by
 cases y with
 | non=>
  cases ry
  cases x with
  | non=>cases rx;exact SeqAt.EqAt.same _
  | bl b=>cases rx;exact SeqAt.EqAt.none_bool b
  | int b=>obtain⟨t,rfl⟩:=rx;exact SeqAt.EqAt.none_int b t
  | str b=>obtain⟨t,rfl⟩:=rx;exact SeqAt.EqAt.none_str b t
  | _=>exact absurd (show false=true from fx) Bool.false_ne_true
 | bl a=>
  cases ry
  cases x with
  | non=>cases rx;exact SeqAt.EqAt.bool_none a
  | bl b=>cases rx;exact SeqAt.EqAt.bool_bool a b
  | int b=>obtain⟨t,rfl⟩:=rx;exact SeqAt.EqAt.bool_int a b t
  | str b=>obtain⟨t,rfl⟩:=rx;exact SeqAt.EqAt.bool_str a b t
  | _=>exact absurd (show false=true from fx) Bool.false_ne_true
 | int a=>
  obtain⟨t',rfl⟩:=ry
  cases x with
  | non=>cases rx;exact SeqAt.EqAt.int_none a t'
  | bl b=>cases rx;exact SeqAt.EqAt.int_bool a t' b
  | int b=>obtain⟨t,rfl⟩:=rx;exact SeqAt.EqAt.int_int a t' b t
  | str b=>obtain⟨t,rfl⟩:=rx;exact SeqAt.EqAt.int_str a t' b t
  | _=>exact absurd (show false=true from fx) Bool.false_ne_true
 | str a=>
  obtain⟨t',rfl⟩:=ry
  cases x with
  | non=>cases rx;exact SeqAt.EqAt.str_none a t'
  | bl b=>cases rx;exact SeqAt.EqAt.str_bool a t' b
  | int b=>obtain⟨t,rfl⟩:=rx;exact SeqAt.EqAt.str_int a t' b t
  | str b=>obtain⟨t,rfl⟩:=rx;exact SeqAt.EqAt.str_str a t' b t
  | _=>exact absurd (show false=true from fx) Bool.false_ne_true
 | _=>exact absurd (show false=true from fy) Bool.false_ne_true
noncomputable def sr (x:V) (u:Value):Bool:=match u with
 | .none=>Zw .non x
 | .bool b=>Zw (.bl b) x
 | .int i _=>Zw (.int i) x
 | .str z _=>Zw (.str z) x
 | _=>false
theorem iB {x y:V} {u:Value} (r:RelV y u) (f:f9 y=true):sr x u=Zw y x:=by
 cases y with
 | non=>cases r;rfl
 | bl b=>cases r;rfl
 | int i=>obtain⟨t,rfl⟩:=r;rfl
 | str z=>obtain⟨t,rfl⟩:=r;rfl
 | _=>exact absurd (show false=true from f) Bool.false_ne_true
theorem pe {x:V}:∀{xs:List V} {us:List Value},Vals xs us→xs.all f9=true→us.any (sr x)=xs.any fun y=>Zw y x
 | _,_,.nil,_=>rfl
 | y :: xs,u :: us,.cons r t,f=>by
  rw[List.all_cons,Bool.and_eq_true] at f
  rw[List.any_cons,List.any_cons,iB r f.1,pe t f.2]
theorem gi {A:Around} {s:Shared} {x:V} {v:Value} (rx:RelV x v) (fx:f9 x=true):∀{xs:List V} {us:List Value},Vals xs us→xs.all f9=true→∀u∈us,SeqAt.EqAt A s u v (sr x u)
 | _,_,.nil,_=>fun u hu=>by cases hu
 | y :: xs,u :: us,.cons r t,f=>fun u' hu=>by
  rw[List.all_cons,Bool.and_eq_true] at f
  rcases List.mem_cons.mp hu with rfl | hu
  ·rw[iB r f.1];exact Qo r rx f.1 fx
  ·exact gi rx fx t f.2 u' hu
noncomputable def mX (x:V) (xs:List V):Bool:=xs.any fun y=>Zw y x
noncomputable def X1 (K:PySem.W.Frag) (neg:Bool):R2:=fun x y H Q=>∃p xs,y=.ref p∧(qC K H p xs∨kU K H p xs)∧f9 x=true∧xs.all f9=true∧Q (.bl (if neg then !mX x xs else mX x xs)) H
theorem oQ:bg X (compareOp .In) (X1 X.K false):=by
 intro pins s σ H x y v u Q I rx ry h
 obtain⟨p,xs,rfl,hq,fx,fs,q⟩:=h
 cases ry
 rcases hq with hq | hq
 ·obtain⟨its,r,pl,hz⟩:=I.list hq
  refine SeqAt.in_listAt (sr x) pl.isList (fun w hw=>gi rx fx r fs w (by simpa using hw)) ⟨.bl _,H,I,rfl,?_⟩
  rw[show its.toArray.any (sr x)=its.any (sr x) by simp,pe r fs]
  exact q
 ·obtain⟨its,r,pl,hz⟩:=I.tuple hq
  refine SeqAt.in_tupleAt (sr x) pl (fun w hw=>gi rx fx r fs w (by simpa using hw)) ⟨.bl _,H,I,rfl,?_⟩
  rw[show its.toArray.any (sr x)=its.any (sr x) by simp,pe r fs]
  exact q
theorem uW:bg X (compareOp .NotIn) (X1 X.K true):=by
 intro pins s σ H x y v u Q I rx ry h
 obtain⟨p,xs,rfl,hq,fx,fs,q⟩:=h
 cases ry
 rcases hq with hq | hq
 ·obtain⟨its,r,pl,hz⟩:=I.list hq
  refine SeqAt.notIn_listAt (sr x) pl.isList (fun w hw=>gi rx fx r fs w (by simpa using hw)) ⟨.bl _,H,I,rfl,?_⟩
  rw[show its.toArray.any (sr x)=its.any (sr x) by simp,pe r fs]
  exact q
 ·obtain⟨its,r,pl,hz⟩:=I.tuple hq
  refine SeqAt.notIn_tupleAt (sr x) pl (fun w hw=>gi rx fx r fs w (by simpa using hw)) ⟨.bl _,H,I,rfl,?_⟩
  rw[show its.toArray.any (sr x)=its.any (sr x) by simp,pe r fs]
  exact q
theorem ug:vR X (.builtin "len") (fun xs H Q=>∃p ys,xs=[.ref p]∧(qC X.K H p ys∨kU X.K H p ys)∧Q (.int ys.length) H):=by
 intro pins s σ H xs us Q I r h
 obtain⟨p,ys,rfl,hq,q⟩:=h
 obtain⟨u,rfl,rx⟩:=vals1 r
 cases rx
 have hn:=dQ
 rcases hq with hq | hq
 ·obtain⟨its,r',pl,hz⟩:=I.list hq
  have hlen:=r'.length
  exact Calls.call_len_list pl.isList (by simp only[List.size_toArray]<;>omega) ⟨.int ys.length,H,I.tok _,⟨s.toks + 1,by rw[List.size_toArray,hlen]⟩,q⟩
 ·obtain⟨its,r',pl,hz⟩:=I.tuple hq
  have hlen:=r'.length
  exact len_tuple pl (by simp only[List.size_toArray]<;>omega) ⟨.int ys.length,H,I.tok _,⟨s.toks + 1,by rw[List.size_toArray,hlen]⟩,q⟩
theorem uh:vR X (.type "list") (fun xs H Q=>∃p ys,xs=[.ref p]∧(qC X.K H p ys∨kU X.K H p ys)∧∀l,H l=none→Q (.ref l) (upd H l (.lst ys))):=by
 intro pins s σ H xs us Q I r h
 obtain⟨p,ys,rfl,hq,q⟩:=h
 obtain⟨u,rfl,rx⟩:=vals1 r
 cases rx
 have fin:∀(its:List Value),Vals ys its→ys.length≤sizeLine→∀(h':Heap) (c':Nat),(∀b o',s.heap.get? b=some o'→h'.get? b=some o')→
   h'.get? s.heap.objs.size=some { cls:=.type "list",dict:=none,data:=.seq its.toArray c',slots:=#[] }→EP X pins σ Q (.ref s.heap.objs.size) { s with heap:=h' }:=fun its r' hz h' c' kp e=>
  ⟨.ref s.heap.objs.size,_,I.laid (t':=s.toks) kp (Nat.le_refl _) (show kr X.prog X.w _ h' _ (.lst ys) from ⟨hz,its,c',r',e⟩),rfl,q _ (I.jG.fresh (Nat.le_refl _))⟩
 rcases hq with hq | hq
 ·obtain⟨its,r',pl,hz⟩:=I.list hq
  have hlen:=r'.length
  obtain⟨o,ho,hc,n,hd⟩:=pl.isList
  exact call_list_seq p (.inl rfl) ho hc hd (fun h' c' kp e=>fin its r' hz h' c' kp e) (by simp only[List.size_toArray]<;>omega)
 ·obtain⟨its,r',pl,hz⟩:=I.tuple hq
  have hlen:=r'.length
  obtain⟨o,ho,hc,n,hd⟩:=pl
  exact call_list_seq p (.inr rfl) ho hc hd (fun h' c' kp e=>fin its r' hz h' c' kp e) (by simp only[List.size_toArray]<;>omega)
noncomputable def Vh (K:PySem.W.Frag) (T:String) (x:V) (H:Hp):Prop:=match x with
 | .str _=>T = "str"
 | .int _=>T = "int"
 | .ref p=>(T = "list"∧∃xs,qC K H p xs)∨(T = "tuple"∧∃o,K.lookup p=some o∧o.cls=.type "tuple"∧o.dict=none)∨
   (T = "dict"∧((∃kvs,H p=some (.dK kvs))∨∃kvs,H p=some (.dT kvs)))∨(T = "set"∧∃S n,H p=some (.set S n))
 | _=>False
theorem aY {pins:List (Addr × Obj)} {σ:St} {H:Hp} {s:Shared} {T:String} {x:V} {v:Value} (I:Inv X pins σ H s) (r:RelV x v) (ty:Vh X.K T x H) :
  s.TypeIs v T∧∀a,v=.ref a→∃ob,s.heap.get? a=some ob∧ob.dict=none:=by
 cases x with
 | str z=>
  obtain⟨t,rfl⟩:=r
  cases (show T = "str" from ty)
  exact⟨typeIs_str s z t,fun _ e=>nomatch e⟩
 | int i=>
  obtain⟨t,rfl⟩:=r
  cases (show T = "int" from ty)
  exact⟨typeIs_int s i t,fun _ e=>nomatch e⟩
 | ref p=>
  cases r
  rcases ty with ⟨rfl,xs,hq⟩ | ⟨rfl,o,hk,hc,hd⟩ | ⟨rfl,hk⟩ | ⟨rfl,S,n,hk⟩
  ·obtain⟨its,_,pl,_⟩:=I.list hq
   refine⟨pl.isList.typeIs,fun a e=>?_⟩
   cases e
   obtain⟨o,n,e,c,hd,_⟩:=pl
   exact⟨o,e,hd⟩
  ·refine⟨⟨o,I.fe p o hk,hc⟩,fun a e=>?_⟩
   cases e
   exact⟨o,I.fe _ o hk,hd⟩
  ·have z:∃o,s.heap.get? p=some o∧o.ExactDict:=by
    rcases hk with ⟨kvs,hk⟩ | ⟨kvs,hk⟩
    ·obtain⟨_,_,_,_,o,_,_,e,ex,_⟩:=I.jG p _ hk
     exact⟨o,e,ex⟩
    ·obtain⟨_,_,_,_,o,_,_,e,ex,_⟩:=I.jG p _ hk
     exact⟨o,e,ex⟩
   obtain⟨o,e,ex⟩:=z
   refine⟨⟨o,e,ex.1⟩,fun a e2=>?_⟩
   cases e2
   exact⟨o,e,ex.2.1⟩
  ·obtain⟨o,_,_,_,e,ex,_⟩:=I.jG p _ hk
   refine⟨⟨o,e,ex.1⟩,fun a e2=>?_⟩
   cases e2
   exact⟨o,e,ex.2.1⟩
 | _=>exact False.elim ty
noncomputable def KO (K:PySem.W.Frag) (T:String) (r:V→List V→Hp→VK→Prop) (to:TE):TE:=fun σ H Q=>to σ H fun x H1=>Vh K T x H1∧r x [] H1 Q
noncomputable def WJ (K:PySem.W.Frag) (T:String) (r:V→List V→Hp→VK→Prop) (to:TE) (t:TA):TE:=fun σ H Q=>to σ H fun x H1=>Vh K T x H1∧t σ H1 fun xs H2=>r x xs H2 Q
variable {o e:Expr} {es:List Expr} {to:TE} {t:TA} {name:Str} {apos cpos:Pos} {T id:String} {r:V→List V→Hp→VK→Prop}
theorem fS (pa:PlainAttrs T) (slot:Slot T name id) (hty:typeOf (.builtin id)=pure (.type "method_descriptor")) (hm:sg X id r) (ho:PE X o to)
  (hbase:attributeBase o name X.env (eval o X.env)=eval o X.env:=by rfl) (hline:(apos.endLine == cpos.line)=true:=by rfl):PE X (.Call (.Attribute o name apos) [] [] cpos) (KO X.K T r to):=by
 intro pins s σ H Q I h
 refine wpAny_Call_method0_late hbase hline (xy (ho pins s σ H _ I h) fun v s1 ⟨x,H1,I1,r1,ty,q1⟩=>?_)
 obtain⟨h1,h2⟩:=aY I1 r1 ty
 exact⟨T,id,pa,slot,hty,h1,h2,Calls.callWith_builtin rfl (PySem.evalArgs_none (hm pins s1 σ H1 x [] v [] Q I1 r1 .nil q1))⟩
theorem kZ (pa:PlainAttrs T) (slot:Slot T name id) (hty:typeOf (.builtin id)=pure (.type "method_descriptor")) (hm:sg X id r) (ho:PE X o to) (ha:PA X (e :: es) t)
  (hbase:attributeBase o name X.env (eval o X.env)=eval o X.env:=by rfl)
  (hfew:((backTo cpos (starEach (e :: es) X.env)).all (fun x=>!x.1) && (backToKw cpos (keywordEach [] X.env)).all (fun x=>x.1.isSome)
   && decide ((e :: es).length + ([]:List Keyword).length + (if ([]:List Keyword).isEmpty then 0 else 1) < 30))=true:=by rfl)
  (hline:(apos.endLine == cpos.line)=true:=by rfl) (hs:starEach (e :: es) X.env=(false,eval e X.env) :: starEach es X.env:=by rfl) (hplain:(backTo cpos (starEach es X.env)).any (·.1)=false:=by rfl) :
  PE X (.Call (.Attribute o name apos) (e :: es) [] cpos) (WJ X.K T r to t):=by
 intro pins s σ H Q I h
 refine wpAny_Call_method_late hbase hfew hline rfl (xy (ho pins s σ H _ I h) fun v s1 ⟨x,H1,I1,r1,ty,q1⟩=>?_)
 obtain⟨h1,h2⟩:=aY I1 r1 ty
 refine⟨T,id,pa,slot,hty,h1,h2,?_⟩
 have hA:=ha cpos pins s1 σ H1 _ I1 q1
 rw[hs] at hA ⊢
 refine Calls.callWith_builtin (by show (false || (backTo cpos (starEach es X.env)).any (·.1))=false;rw[hplain]<;>rfl) (Calls.evalArgs_plain ?_)
 exact xy hA fun us s2 ⟨vs,H2,I2,r2,q2⟩=>hm pins s2 σ H2 x vs v us Q I2 r1 r2 q2
end
end L2
namespace L2
open PySem PySem.Spec PyProof.Rows
noncomputable def XS (X:Cx) (id:String) (r:V→List V→Hp→VK→Prop):Prop:=
 ∀(pins:List (Addr × Obj)) (s:Shared) (σ:St) (H:Hp) (x:V) (xs:List V) (v:Value) (us:List Value) (Q:VK),Inv X pins σ H s→RelV x v→Vals xs us→r x xs H Q→
  wpAny (model X.prog X.w) X.A (call (.builtin id) (v :: us)) (EP X pins σ Q) X.xe s
theorem Vals.one:∀{x:V} {us:List Value},Vals [x] us→∃u,us=[u]∧RelV x u
 | _,_,.cons r .nil=>⟨_,rfl,r⟩
theorem Vals.zero:∀{us:List Value},Vals [] us→us=[]
 | _,.nil=>rfl
theorem Vals.dropLast {xs:List V} {us:List Value} (h:Vals xs us):Vals xs.dropLast us.dropLast:=by
 induction h with
 | nil=>exact .nil
 | cons r t ih=>
  cases t with
  | nil=>exact .nil
  | cons q t'=>exact .cons r ih
theorem Vals.rep {xs:List V} {us:List Value} (h:Vals xs us):∀k:Nat,Vals (List.replicate k xs).flatten (List.replicate k us).flatten
 | 0=>.nil
 | k + 1=>by
  rw[List.replicate_succ,List.replicate_succ,List.flatten_cons,List.flatten_cons]
  exact Vals.append h (Vals.rep h k)
theorem so {α:Type} (l:List α):l.eraseIdx (l.length - 1)=l.dropLast:=by
 induction l with
 | nil=>rfl
 | cons a r ih=>
  cases r with
  | nil=>rfl
  | cons b r=>
   have e:(a :: b :: r).length - 1=((b :: r).length - 1) + 1:=by
    have h1:(a :: b :: r).length=r.length + 2:=rfl
    have h2:(b :: r).length=r.length + 1:=rfl
    omega
   rw[e,List.eraseIdx_cons_succ,ih]
   all_goals rfl
theorem foldl_rep (its:List Value):∀(k:Nat) (acc:List Value),
  List.foldl (fun x1 x2=>x1 ++ x2) acc.toArray (List.replicate k its.toArray)=(acc ++ (List.replicate k its).flatten).toArray
 | 0,acc=>by simp
 | k + 1,acc=>by
  have e:acc.toArray ++ its.toArray=(acc ++ its).toArray:=by simp
  have e2:(acc ++ its) ++ (List.replicate k its).flatten=acc ++ (List.replicate (k + 1) its).flatten:=by
   rw[List.replicate_succ,List.flatten_cons,List.append_assoc]
  rw[←e2,←foldl_rep its k (acc ++ its),←e,List.replicate_succ,List.foldl_cons]
section
variable {X:Cx} {pins:List (Addr × Obj)} {σ:St} {H:Hp} {s:Shared} {l b:Addr} {xs ys zs:List V}
theorem Inv.Zl {its its':List Value} {n:Nat} {f:Array Value→Array Value} {t':Nat} (I:Inv X pins σ H s) (hH:H l=some (.lst xs))
  (e:s.heap.get? l=some { cls:=.type "list",data:=.seq its.toArray n }) (hf:f its.toArray=its'.toArray) (hv:Vals ys its') (hz:ys.length≤sizeLine) :
  Inv X pins σ (upd H l (.lst ys)) { s with heap:=s.heap.update l (Obj.mapSeq f),toks:=t' }:=by
 have q:=PySem.IsL.update e f
 rw[hf] at q
 refine I.write (x:=l) (e:=l) (by rw[hH];exact trivial) (.inl rfl) (fun b' u hb hu=>(Heap.get?_update_other s.heap (Obj.mapSeq f) (Ne.symm hb)).trans hu) ⟨_,q⟩ ?_
 exact⟨hz,its',_,hv,q⟩
theorem Inv.Zr {its:List Value} {t':Nat} (I:Inv X pins σ H s) (hv:Vals ys its) (hz:ys.length≤sizeLine) :
  Inv X pins σ (upd H s.heap.objs.size (.lst ys)) { s with heap:=s.heap.push { cls:=.type "list",data:=.seq its.toArray },toks:=t' }:=
 I.laid (fun _ _ q=>Heap.get?_push_of_some _ q) (Nat.le_refl _) ⟨hz,its,0,hv,Heap.get?_push_size _ rfl⟩
theorem Inv.fresh (I:Inv X pins σ H s):H s.heap.objs.size=none:=I.jG.fresh (Nat.le_refl _)
theorem Inv.rR (I:Inv X pins σ H s) (hH:H l=some (.lst xs)):xs.length≤sizeLine∧∃(its:List Value) (n:Nat),Vals xs its∧xs.length=its.length∧s.heap.get? l=some { cls:=.type "list",data:=.seq its.toArray n }:=by
 obtain⟨z,its,n,r,e⟩:=I.jG l _ hH
 exact⟨z,its,n,r,r.length,e⟩
theorem rT {n:Nat} (h:n≤sizeLine):Builtin.List.listTooLong n=false:=by
 unfold Builtin.List.listTooLong
 exact decide_eq_false (by omega)
end
section
variable {X:Cx}
noncomputable def ZW:V→List V→Hp→VK→Prop:=fun x vs H Q=>∃l xs y,x=.ref l∧vs=[y]∧H l=some (.lst xs)∧xs.length < sizeLine∧Q .non (upd H l (.lst (xs ++ [y])))
theorem fF:XS X "list.append" ZW:=by
 intro pins s σ H x vs v us Q I rx rv h
 obtain⟨l,xs,y,rfl,rfl,hH,hz,q⟩:=h
 cases rx
 obtain⟨u,rfl,ru⟩:=rv.one
 obtain⟨z,its,n,r,hl,e⟩:=I.rR hH
 refine call_meets F.slot_list_append ⟨_,e,rfl⟩ F.entry_list_append (F.args_list_append_2 _ _) (PySem.list_append l its.toArray n u (by rw[List.size_toArray];omega)) ⟨e,?_⟩
 refine⟨.non,_,I.Zl (its':=its ++ [u]) hH e (by simp) (r.append (.cons ru .nil)) ?_,rfl,q⟩
 rw[List.length_append,List.length_singleton]
 omega
noncomputable def ZG:V→List V→Hp→VK→Prop:=fun x vs H Q=>∃l b xs zs,x=.ref l∧vs=[.ref b]∧H l=some (.lst xs)∧H b=some (.lst zs)∧xs.length + zs.length≤sizeLine∧Q .non (upd H l (.lst (xs ++ zs)))
theorem oh:XS X "list.extend" ZG:=by
 intro pins s σ H x vs v us Q I rx rv h
 obtain⟨l,b,xs,zs,rfl,rfl,hH,hB,hz,q⟩:=h
 cases rx
 obtain⟨u,rfl,ru⟩:=rv.one
 cases ru
 obtain⟨z,its,n,r,hl,e⟩:=I.rR hH
 obtain⟨z2,its2,n2,r2,hl2,e2⟩:=I.rR hB
 have hsz:its.toArray.size + its2.toArray.size≤sizeLine:=by rw[List.size_toArray,List.size_toArray];omega
 have hlong:¬(!its.toArray.isEmpty && Builtin.List.listTooLong (its.toArray.size + its2.toArray.size))=true:=by
  rw[rT hsz,Bool.and_false]
  exact Bool.false_ne_true
 refine call_meets F.slot_list_extend ⟨_,e,rfl⟩ F.entry_list_extend (F.args_list_extend_2 _ _)
  (AutoSeq1.list_extend_list_list_0 l its.toArray n b its2.toArray n2 hlong (by rw[List.size_toArray];omega) (by omega)) ⟨e,e2,?_⟩
 refine⟨.non,_,I.Zl (its':=its ++ its2) hH e (by simp) (r.append r2) ?_,rfl,q⟩
 rw[List.length_append]
 omega
noncomputable def KH:V→List V→Hp→VK→Prop:=fun x vs H Q=>∃l xs y,x=.ref l∧vs=[]∧H l=some (.lst xs)∧xs[xs.length - 1]?=some y∧Q y (upd H l (.lst xs.dropLast))
theorem QF:XS X "list.pop" KH:=by
 intro pins s σ H x vs v us Q I rx rv h
 obtain⟨l,xs,y,rfl,rfl,hH,hy,q⟩:=h
 cases rx
 have hus:=rv.zero
 subst hus
 obtain⟨z,its,n,r,hl,e⟩:=I.rR hH
 obtain⟨u,hu,ru⟩:=r.get hy
 have hy':its.toArray[its.toArray.size - 1]?=some u:=by
  show its.toArray[its.length - 1]?=some u
  rw[←Array.getElem?_toList,←hl]
  exact hu
 refine call_meets F.slot_list_pop ⟨_,e,rfl⟩ F.entry_list_pop (F.args_list_pop_1 _) (MeetsSeq.list_pop_last l its.toArray n u hy' (by rw[List.size_toArray];omega)) ⟨e,?_⟩
 refine⟨y,_,I.Zl (its':=its.dropLast) hH e ?_ r.dropLast ?_,ru,q⟩
 ·show its.toArray.eraseIdxIfInBounds (its.toArray.size - 1)=its.dropLast.toArray
  rw[List.size_toArray,List.eraseIdxIfInBounds_toArray,so]
 ·rw[List.length_dropLast]
  omega
noncomputable def KP:V→List V→Hp→VK→Prop:=fun x vs H Q=>∃l xs i k y,x=.ref l∧vs=[.int i]∧H l=some (.lst xs)∧-(2 ^ 63)≤i∧i < 2 ^ 63∧seqIndex? i xs.length=some k∧xs[k]?=some y∧Q y (upd H l (.lst (xs.eraseIdx k)))
noncomputable def Xk:V→List V→Hp→VK→Prop:=fun x vs H Q=>∃l xs,x=.ref l∧vs=[]∧H l=some (.lst xs)∧Q .non (upd H l (.lst xs.reverse))
noncomputable def Q5:V→List V→Hp→VK→Prop:=fun x vs H Q=>∃l xs,x=.ref l∧vs=[]∧H l=some (.lst xs)∧Q .non (upd H l (.lst []))
theorem i9:XS X "list.clear" Q5:=by
 intro pins s σ H x vs v us Q I rx rv h
 obtain⟨l,xs,rfl,rfl,hH,q⟩:=h
 cases rx
 have hus:=rv.zero
 subst hus
 obtain⟨z,its,n,r,hl,e⟩:=I.rR hH
 refine call_meets F.slot_list_clear ⟨_,e,rfl⟩ F.entry_list_clear (F.args_list_clear_1 _) (AutoSeq1.list_clear_list_0 l its.toArray n (by rw[List.size_toArray];omega)) ⟨e,?_⟩
 exact⟨.non,_,I.Zl (its':=[]) (ys:=[]) hH e rfl .nil (Nat.zero_le _),rfl,q⟩
noncomputable def KY:R2:=fun x y H Q=>∃l b xs zs,x=.ref l∧y=.ref b∧H l=some (.lst xs)∧H b=some (.lst zs)∧xs.length + zs.length≤sizeLine∧∀p,H p=none→Q (.ref p) (upd H p (.lst (xs ++ zs)))
theorem QU:bg X (binaryOp .Add) KY:=by
 intro pins s σ H x y v u Q I rx ry h
 obtain⟨l,b,xs,zs,rfl,rfl,hH,hB,hz,q⟩:=h
 cases rx
 cases ry
 obtain⟨z,its,n,r,hl,e⟩:=I.rR hH
 obtain⟨z2,its2,n2,r2,hl2,e2⟩:=I.rR hB
 refine PySem.P.add_list e e2 ?_ (by rw[List.size_toArray,List.size_toArray];omega)
 have ea:its.toArray ++ its2.toArray=(its ++ its2).toArray:=by simp
 rw[ea]
 exact⟨.ref _,_,I.Zr (t':=s.toks) (r.append r2) (by rw[List.length_append];omega),rfl,q _ I.fresh⟩
noncomputable def KD:R2:=fun x y H Q=>∃l k xs,x=.ref l∧y=.int k∧H l=some (.lst xs)∧-(2 ^ 63)≤k∧k < 2 ^ 63∧xs.length * k.toNat≤sizeLine∧
 ∀p,H p=none→Q (.ref p) (upd H p (.lst (List.replicate k.toNat xs).flatten))
theorem len_rep {α:Type} (xs:List α) (k:Nat):(List.replicate k xs).flatten.length=k * xs.length:=by
 induction k with
 | zero=>simp
 | succ k ih=>rw[List.replicate_succ,List.flatten_cons,List.length_append,ih,Nat.succ_mul,Nat.add_comm]
theorem eK:bg X (binaryOp .Mult) KD:=by
 intro pins s σ H x y v u Q I rx ry h
 obtain⟨l,k,xs,rfl,rfl,hH,h1,h2,hz,q⟩:=h
 cases rx
 obtain⟨t,rfl⟩:=ry
 obtain⟨z,its,n,r,hl,e⟩:=I.rR hH
 have hlen:its.toArray.size * k.toNat≤sizeLine:=by rw[List.size_toArray,←hl];exact hz
 have hcap:¬its.toArray.size * k.toNat > (2 ^ 63 - 1) / 8:=by
  have:(sizeLine:Nat)≤(2 ^ 63 - 1) / 8:=by decide
  omega
 have hfit:¬(!Builtin.List.listFitsIndex k)=true:=by
  rw[fitsIndex_both h1 h2]
  exact Bool.false_ne_true
 have hlong:¬Builtin.List.listTooLong (its.toArray.size * k.toNat)=true:=by
  rw[rT hlen]
  exact Bool.false_ne_true
 have hnew:List.foldl (fun x1 x2=>x1 ++ x2) #[] (List.replicate (if its.toArray.isEmpty=true then 0 else k.toNat) its.toArray)=(List.replicate k.toNat its).flatten.toArray:=by
  have f0:∀m:Nat,List.foldl (fun x1 x2=>x1 ++ x2) #[] (List.replicate m its.toArray)=(List.replicate m its).flatten.toArray:=fun m=>by
   have:=foldl_rep its m []
   rw[List.nil_append] at this
   exact this
  rw[f0]
  cases its with
  | nil=>simp
  | cons a r'=>rw[if_neg (by simp)]
 refine wpAny_binaryOp_repeat_ref (T:="list") (U:="int") (by decide) ⟨_,e,rfl⟩ (fun s'=>typeIs_int s' k t) noFill_list_mul F.fills_int_mul F.slot_int_rmul repeat_list F.slot_int_index.lookup
  (call_meets F.slot_int_rmul (typeIs_int s k t) F.entry_int_rmul (F.args_int_rmul_2 _ _) (int___rmul___int_list k t l its.toArray n)
   ⟨e,rfl,⟨_,e,rfl⟩,call_meets F.slot_list_mul ⟨_,e,rfl⟩ F.entry_list_mul (F.args_list_mul_2 _ _) (AutoListH.list___mul___list_int_3 l its.toArray n k t hfit hcap hlong) ⟨e,?_⟩⟩)
 rw[hnew]
 exact⟨.ref _,_,I.Zr (t':=s.toks) (r.rep k.toNat) (by rw[len_rep,Nat.mul_comm];exact hz),rfl,q _ I.fresh⟩
end
section
variable {prog:Program} {w:World} {A:Around} {E:Value→Shared→Prop} {s:Shared}
end
section
variable {X:Cx}
end
end L2
namespace Att
open PySem PySem.W PySem.Calls PyProof.Rows
theorem mK {P:Params} {h:Heap}:∀(ns:List Int) (vs:List Value),WellAll P h vs (ns.map WData.int)→IntsAre vs ns:=by
 intro ns
 induction ns with
 | nil=>
  intro vs w
  rw[List.map_nil] at w
  cases w
  exact .nil
 | cons n ns ih=>
  intro vs w
  rw[List.map_cons] at w
  cases w with
  | cons a b=>
   cases a
   exact .cons _ _ (ih _ b)
theorem oW {l:OpenLaw} {n:Nat} (hn:l.most=some n) {P:Params} {h:Heap} {args:List WData} {vals:List Value}
  (hpre:l.row.toRowW.claim.pre args=true) (hwl:WellAll P h vals args) :
  ∃a vs ns,vals=[Value.ref a]∧args=[WData.list (ns.map WData.int)]∧h.get? a=some { cls:=.type "list",data:=.seq vs.toArray }∧IntsAre vs ns∧ns.length≤n:=by
 have hsh:WShape.hasAll [] args [.list .int]=true:=(pre_splitW hpre).1
 have hc:l.pre.holds [] { args:=args }=true:=(pre_splitW hpre).2
 obtain⟨d,r,rfl,h1,h2⟩:=hasAllW_cons hsh
 obtain rfl:=hasAllW_nil h2
 obtain⟨xs,rfl,h3⟩:=hasW_list h1
 obtain⟨ns,rfl⟩:=items_int h3
 have hlen:ns.length≤n:=by
  unfold OpenLaw.pre at hc
  have h4:(WTm.not (.lt (.lit (.int (n:Int))) (.len (.arg 0)))).holds [] { args:=[.list (ns.map .int)] }=true:=by
   have h4:=(holds_andW hc).1
   rw[hn] at h4
   exact h4
  have h5:=condW_of h4 (w_not (w_lt w_lit (w_len_list (w_arg rfl))))
  rw[List.length_map] at h5
  refine Nat.le_of_not_lt fun q=>?_
  have q':(n:Int) < ((ns.length:Nat):Int):=by omega
  first
   | (rw[decide_eq_true q'] at h5;exact absurd h5 (by decide))
   | (simp at h5;omega)
 cases hwl with
 | cons w1 w2=>
  cases w2
  cases w1 with
  | list ho hall=>exact⟨_,_,ns,rfl,rfl,ho,mK ns _ hall,hlen⟩
theorem oX (l:OpenLaw) (args:List WData):l.row.toRowW.claim.post args (.bool true) args=true:=
 postW_of (r:=l.row.toRowW) (X:=(true == true))
  (show WShape.has [] (.bool true) .bool=true by first | rfl | decide | simp [WShape.has,WShape.arms,WShape.armsAll])
  (show (WTm.eq .res (.lit (.bool true))).value [] { args:=args,res:=some (.bool true),after:=args }=some (.bool (true == true)) from w_eq_bool (w_res rfl) w_lit) rfl
theorem u9 {l:OpenLaw} {n:Nat} {q:Program} {loose:List Str} {XP:(Str→Option Value)→Heap→Prop} {YP:World→Heap→Prop} {d:DefRec}
  (hn:l.most=some n) (hdf:d.params.defaults=[])
  (call:∀(w:World) (s₀ s₁:Shared) (mg mb:Str→Option Value) (fa:Addr) (o:Obj) (pm cd doc:Value) (a:Addr) (vs:List Value) (ns:List Int),
   Ground q loose [] XP w s₀ mg mb s₁.heap→YP w s₁.heap→
   s₁.heap.get? fa=some o→o.data=.func (docDef d.name d.params d.body d.scope pm cd doc)→s₁.heap.CodeRec cd d.name→mg d.name=some (.ref fa)→
   s₁.heap.get? a=some { cls:=.type "list",data:=.seq vs.toArray }→IntsAre vs ns→ns.length≤n→s₁.gens = #[]→
   codeAny (model l.prog w) callerA (.call (.ref fa) ⟨[.ref a],[]⟩) (fun r s'=>r=.ok (.ret (.bool true))∧OldK s₁.heap s'.heap∧s'.os=s₁.os∧AllBare s'.gens) s₁) :
  WalkO q loose XP YP l.row.toRowW d [] (fun f vs=>PySem.call f vs):=by
 intro w s₀ s₁ mg mb G Y fa o pm cd doc dV kV ho hd hcd hD hmg hg args vals as hpre hlay hrd hwl hlo
 obtain rfl:dV=.none:=Dflts.none hD hdf
 obtain rfl:kV=.none:=Dflts.noKw hD
 obtain⟨a,vs,ns,rfl,rfl,hobj,hints,hlen⟩:=oW hn hpre hwl
 refine enter_call (codeAny_mono (call w s₀ s₁ mg mb fa o pm cd doc a vs ns G Y ho (fd_plain hd) hcd hmg hobj hints hlen hg) fun r s' hq=>?_)
 obtain⟨rfl,h2,h3,h4⟩:=hq
 exact⟨.inl ⟨.bool true,.bool true,[],rfl,fun _=>rfl,.bool true,oX l _,fun _=>⟨List.Pairwise.nil,fun _ hm=>(nomatch hm)⟩⟩,h2,h3,h4⟩
section
variable {prog:Program} {w:World} {A:Around} {E:Value→Shared→Prop} {s:Shared} {K:Frag}
noncomputable def Ko (h:Heap):Heap:={ h with objs:=#[] }
noncomputable def ledger (h:Heap) (L d:Addr):List (Addr × Obj):=(List.range h.objs.size).filterMap fun a=>if a=L∨a=d then none else (h.get? a).map fun o=>(a,o)
end
end Att
namespace L2
open PySem PySem.Spec PyProof.Rows
theorem ux:∀{vs:List Value} {ns:List Int},IntsAre vs ns→Vals (ns.map V.int) vs
 | _,_,.nil=>.nil
 | _,_,.cons n t h=>.cons ⟨t,rfl⟩ (ux h)
noncomputable def ib (H:Hp):Prop:=∀b,H b=none∨∃o xs,H b=some (.frz o (.lst xs))
theorem i4 {P:Program} {w:World} {K:PySem.W.Frag} {mg mb:Str→Option Value} {CX:d9} {k:Nat} {fa a:Addr} {fd:FuncData} {x:Str} {sp:Sp} {s₁:Shared} {vs:List Value} {ns:List Int}
  (KX:K.In s₁.heap) (hns:s₁.heap.Ns mainGlobals mg) (hb:s₁.heap.Ns builtinsNs mb) (hbb:∀x:Str,x≠"__name__"→mb x=bootBuiltins x) (hlim:s₁.heap.NoLimit) (hg:s₁.gens = #[])
  (ha:s₁.heap.get? a=some { cls:=.type "list",data:=.seq vs.toArray }) (hi:IntsAre vs ns) (hl:ns.length≤sizeLine) (hr:vy k callerA)
  (F:∀base:Heap,K.In base→base.Ns mainGlobals mg→qJ P w K mg base CX k fa fd [x] sp) (hbind:∀(s:Shared) (u:Value),BindsTo s fd ⟨[u],[]⟩ [(x,u)])
  (hsp:∀H:Hp,ib H→qC K H a (ns.map V.int)→sp [.ref a] H (fun v _=>v=.bl true) fun _ _ _=>False)
  (hCX:∀H e s',CX [] H s₁ (fun _ _ _=>False) e s'→False) :
  codeAny (model P w) callerA (.call (.ref fa) ⟨[.ref a],[]⟩) (fun r s'=>r=.ok (.ret (.bool true))∧OldK s₁.heap s'.heap∧s'.os=s₁.os∧AllBare s'.gens) s₁:=by
 have rv:=ux hi
 have lenV:=hi.length
 have core:∀H:Hp,ib H→qC K H a (ns.map V.int)→mZ P w H s₁.heap→(∀b,H b≠none→b=a)→(H a≠none→K.lookup a=none)→
   codeAny (model P w) callerA (.call (.ref fa) ⟨[.ref a],[]⟩) (fun r s'=>r=.ok (.ret (.bool true))∧OldK s₁.heap s'.heap∧s'.os=s₁.os∧AllBare s'.gens) s₁:=by
  intro H hO hS jG hA hK
  have base_of:∀{b:Addr} {o:Obj},s₁.heap.get? b=some o→H b=none→(ue s₁.heap H).get? b=some o:=fun e n=>iN e n
  have noA:∀{b:Addr} {o:Obj} {es:Array DictEntry} {ep:Nat},s₁.heap.get? b=some o→o.data=.dict es ep→H b=none:=fun {b o es ep} e d=>by
   cases q:H b with
   | none=>rfl
   | some u=>
    have e':b=a:=hA b (by rw[q];simp)
    subst e'
    rw[ha] at e;cases e
    have d':Data.seq vs.toArray _=Data.dict es ep:=d
    cases d'
  have nsK:∀{b:Addr} {m:Str→Option Value},s₁.heap.Ns b m→(ue s₁.heap H).Ns b m:=fun {b m} ⟨o,es,ep,e,d,r⟩=>⟨o,es,ep,base_of e (noA e d),d,r⟩
  have hKb:K.In (ue s₁.heap H):=fun b o e=>base_of (KX b o e) (by
   cases q:H b with
   | none=>rfl
   | some u=>
    have e':b=a:=hA b (by rw[q];simp)
    subst e'
    rw[hK (by rw[q];simp)] at e;cases e)
  have hM:Mod K mg (ue s₁.heap H):=⟨hKb,nsK hns,⟨mb,nsK hb,hbb⟩,let ⟨mc,h1,h2⟩:=hlim;⟨mc,nsK h1,h2⟩⟩
  have e0:u7 P w K mg (ue s₁.heap H) callerA [] s₁ H:=⟨rfl,hM,fun b o e=>Za e,Nat.le_of_eq (nE _ _),trivial,fun b hb=>absurd (show b∈([]:List Addr) from hb) (by simp),jG,.of_eq hg⟩
  refine codeAny_mono ((F _ hKb (nsK hns)).run callerA [] s₁ H ⟨[.ref a],[]⟩ [.ref a] [.ref a] _ _ hr e0 (hbind s₁ (.ref a)) (.cons rfl .nil) (hsp H hO hS)) fun r s' h=>?_
  cases r with
  | error e=>exact(hCX H e s' h).elim
  | ok fl=>
   cases fl with
   | next=>exact False.elim h
   | brk=>exact False.elim h
   | cont=>exact False.elim h
   | ret u=>
    obtain⟨v,H',os,bare,un,hok',r',q⟩:=h
    have q':v=.bl true:=q
    subst q'
    obtain rfl:u=Value.bool true:=r'
    refine⟨rfl,OldK.of_keep fun b o e=>?_,os,bare⟩
    cases q:H b with
    | none=>exact un.keep b o e q (by intro z;exact absurd (show b∈([]:List Addr) from z) (by simp)) (by simp)
    | some u=>
     rcases hO b with z | ⟨ob,xs,z⟩
     ·rw[q] at z;cases z
     ·have z2:=un.ur b ob _ z
      obtain⟨e1,_⟩:=jG b _ z
      obtain⟨e2,_⟩:=hok' b _ z2
      rw[e] at e1;cases e1
      exact e2
 cases hk:K.lookup a with
 | some o=>
  have e:=KX a o hk
  rw[ha] at e
  cases e
  refine core (fun _=>none) (fun _=>.inl rfl) (.inr ⟨_,vs.toArray,_,hk,rfl,rfl,rfl,by rw[List.size_toArray,lenV];exact hl,by simpa using rv⟩) (fun b u z=>by have z':(none:Option HO)=some u:=z;cases z') (fun b z=>absurd rfl z) fun z=>absurd rfl z
 | none=>
  refine core (fun b=>if b=a then some (.frz { cls:=.type "list",data:=.seq vs.toArray } (.lst (ns.map V.int))) else none) (fun b=>?_) (.inl (.inr ⟨{ cls:=.type "list",data:=.seq vs.toArray },if_pos rfl⟩)) (fun b u z=>?_) (fun b z=>?_) fun _=>hk
  ·by_cases hb:b=a
   ·exact .inr ⟨_,_,if_pos hb⟩
   ·exact .inl (if_neg hb)
  ·by_cases hb:b=a
   ·have z':=(if_pos hb).symm.trans z
    cases z'
    subst hb
    exact⟨ha,by rw[List.length_map];exact hl,vs,_,rv,ha⟩
   ·have z':=(if_neg hb).symm.trans z
    cases z'
  ·by_cases hb:b=a
   ·exact hb
   ·exact absurd (if_neg hb) z
end L2
namespace L2
open PySem PySem.Spec PyProof.Rows
noncomputable abbrev Vc {K:PySem.W.Frag} {h:Heap} (_:K.In h):PySem.W.Frag:=K
theorem ZO {l:PySem.W.OpenLaw} {n k:Nat} {q:Program} {loose:List Str} {XP:(Str→Option Value)→Heap→Prop} {YP:World→Heap→Prop} {d:DefRec} {K:Params→PySem.W.Frag} {CX:World→d9} {sp:World→Sp} {x:Str}
  (hn:l.most=some n) (hn2:n≤sizeLine) (hdf:d.params.defaults=[]) (hr:vy k callerA)
  (hY:∀(w:World) (h:Heap),YP w h→(K w.params).In h)
  (F:∀(w:World) (mg:Str→Option Value) (fa:Addr) (h:Heap),(K w.params).In h→h.Ns mainGlobals mg→mg d.name=some (.ref fa)→
   ∃fd:FuncData,(∀(s:Shared) (u:Value),BindsTo s fd ⟨[u],[]⟩ [(x,u)])∧
    ∀base:Heap,(K w.params).In base→base.Ns mainGlobals mg→qJ l.prog w (K w.params) mg base (CX w) k fa fd [x] (sp w))
  (hsp:∀(w:World) (H:Hp) (a:Addr) (ns:List Int),ns.length≤n→ib H→qC (K w.params) H a (ns.map V.int)→sp w [.ref a] H (fun v _=>v=.bl true) fun _ _ _=>False)
  (hCX:∀(w:World) (H:Hp) (s:Shared) (e:Value) (s':Shared),CX w [] H s (fun _ _ _=>False) e s'→False) :
  PySem.W.WalkO q loose XP YP l.row.toRowW d [] (fun f vs=>PySem.call f vs):=by
 refine Att.u9 hn hdf fun w s₀ s₁ mg mb fa o pm cd doc a vs ns G Y ho hd hcd hmg hobj hints hlen hg=>?_
 have KX:=hY w _ Y
 obtain⟨fd,hb,hF⟩:=F w mg fa _ KX G.T.g hmg
 exact i4 KX G.T.g G.T.b G.T.builtins G.T.nolimit hg hobj hints (Nat.le_trans hlen hn2) hr hF hb (fun H hO hS=>hsp w H a ns hlen hO hS) fun H e s'=>hCX w H s₁ e s'
theorem aB {l:PySem.W.OpenLaw} {n k:Nat} {q:Program} {loose:List Str} {XP:(Str→Option Value)→Heap→Prop} {YP:World→Heap→Prop} {d:DefRec} {K:Params→PySem.W.Frag} {CX:d9} {sp:PySem.W.Frag→Sp} {x:Str}
  (hn:l.most=some n) (hn2:n≤sizeLine) (hdf:d.params.defaults=[]) (hr:vy k callerA)
  (hY:∀(w:World) (h:Heap),YP w h→(K w.params).In h)
  (F:∀(w:World) (mg:Str→Option Value) (fa:Addr) (h:Heap),(K w.params).In h→h.Ns mainGlobals mg→mg d.name=some (.ref fa)→
   ∃fd:FuncData,(∀(s:Shared) (u:Value),BindsTo s fd ⟨[u],[]⟩ [(x,u)])∧
    ∀base:Heap,(K w.params).In base→base.Ns mainGlobals mg→qJ l.prog w (K w.params) mg base CX k fa fd [x] (sp (K w.params)))
  (hsp:∀(K:PySem.W.Frag) (H:Hp) (a:Addr) (ns:List Int),ns.length≤n→ib H→qC K H a (ns.map V.int)→sp K [.ref a] H (fun v _=>v=.bl true) fun _ _ _=>False)
  (hCX:∀(H:Hp) (s:Shared) (e:Value) (s':Shared),CX [] H s (fun _ _ _=>False) e s'→False) :
  PySem.W.WalkO q loose XP YP l.row.toRowW d [] (fun f vs=>PySem.call f vs):=
 ZO (K:=K) (CX:=fun _=>CX) (sp:=fun w=>sp (K w.params)) hn hn2 hdf hr hY F (fun w H a ns h1 h2 h3=>hsp (K w.params) H a ns h1 h2 h3) fun _ H s e s'=>hCX H s e s'
end L2
namespace L2
open PySem PySem.Spec PyProof.Rows
noncomputable def inClass (s:Stmt) (j:Nat):Stmt:=match s with
 | .ClassDef _ _ _ body _ _ _ _ _ _ _=>body.getD j (.Pass ⟨0,0,0,0⟩)
 | _=>.Pass ⟨0,0,0,0⟩
noncomputable def qj (s:Stmt):Arguments:=match s with
 | .FunctionDef _ a _ _ _ _ _ _ _ _=>a
 | _=>{ posonlyargs:=[],args:=[],vararg:=none,kwonlyargs:=[],kw_defaults:=[],kwarg:=none,defaults:=[] }
noncomputable def qq (s:Stmt):List Stmt:=match s with
 | .FunctionDef _ _ b _ _ _ _ _ _ _=>b
 | _=>[]
noncomputable def z5 (s:Stmt):Scope:=match s with
 | .FunctionDef _ _ _ _ _ _ sc _ _ _=>sc
 | _=>{ kind:=.function,names:=[],isGenerator:=false,isCoroutine:=false }
noncomputable abbrev jO:d9:=fun _ _ _ _ _ _=>False
noncomputable abbrev E0:XK:=fun _ _ _=>False
theorem qW {X:Cx}:Passes jO X E0:=fun _ _ _ _ _ _ _ h=>h.elim
structure Qb (K:PySem.W.Frag) (x qual:Str) (st:Stmt) (f:Addr) (fd:FuncData):Prop where
 ex:∃(oc:Value) (od:Option Addr) (kV doc pm:Value) (an:Option Addr) (cdv ct:Value) (osl:Array (Option Value)),
  fd=PySem.W.fnOf x qual (qj st) (qq st) (z5 st) .none kV doc pm an cdv ct∧K.lookup f=some ⟨oc,od,.func fd,osl⟩∧PySem.W.codeIn K cdv qual=true
 kp:PySem.W.keepIn K (.ref f)=true
section
variable {P:Program} {w:World} {K:PySem.W.Frag} {mg:Str→Option Value} {base:Heap}
theorem Qb.ok {x qual:Str} {st:Stmt} {f:Addr} {fd:FuncData} {N ps:List Str} {k:Nat} {sp:Sp} (F:Qb K x qual st f fd) (S:qX N ps (z5 st)) (len:∀vs H Q E,sp vs H Q E→vs.length=ps.length)
  (hbody:∀(cdv:Value) (A:Around) (outer:List Env) (s:Shared) (H:Hp) (vs:List V) (Q:VK) (E:XK),vy k (A.deeper (envOfC qual (z5 st) s.heap.objs.size f cdv))→sp vs H Q E→
   ∃t,sk (nS jO P w K mg base N qual (z5 st) f cdv A outer s H E).XA (qq st) t∧t { nx:=fun _ H'=>Q .non H',rt:=Q } (start N vs) H):qJ P w K mg base jO (k + 1) f fd ps sp:=by
 obtain⟨oc,od,kV,doc,pm,an,cdv,ct,osl,rfl,lk,hcd⟩:=F.ex
 refine JU lk hcd S len fun A outer s H vs Q E hr hsp=>?_
 obtain⟨t,h,q⟩:=hbody cdv A outer s H vs Q E hr hsp
 exact⟨t,h.XA,q⟩
theorem Qb.binds {x qual:Str} {st:Stmt} {f:Addr} {fd:FuncData} {ps:List Str} (F:Qb K x qual st f fd)
  (h:∀(kV doc pm:Value) (an:Option Addr) (cdv ct:Value) (us:List Value),us.length=ps.length→bindArgs (PySem.W.fnOf x qual (qj st) (qq st) (z5 st) .none kV doc pm an cdv ct) ⟨us,[]⟩=pure (ps.zip us)):Binds K fd ps []:=by
 obtain⟨oc,od,kV,doc,pm,an,cdv,ct,osl,rfl,lk,hcd⟩:=F.ex
 exact .all (h kV doc pm an cdv ct)
theorem qE {x qual:Str} {st:Stmt} {f:Addr} {oc:Value} {od an:Option Addr} {osl:Array (Option Value)} {kV doc pm cdv ct:Value} (l:K.lookup f=some ⟨oc,od,.func (PySem.W.fnOf x qual (qj st) (qq st) (z5 st) .none kV doc pm an cdv ct),osl⟩)
  (c:PySem.W.codeIn K cdv qual=true) (k:PySem.W.keepIn K (.ref f)=true):Qb K x qual st f (PySem.W.fnOf x qual (qj st) (qq st) (z5 st) .none kV doc pm an cdv ct):=⟨⟨oc,od,kV,doc,pm,an,cdv,ct,osl,rfl,l,c⟩,k⟩
end
theorem fO {n:Nat} (h:n≤1000):n < sizeLine:=Nat.lt_of_le_of_lt h (by decide)
section
variable {X:Cx}
theorem pv (i:Nat) {x:Str} {pos:Pos} (hN:X.N[i]?=some x:=by rfl) (hv:Kw X.env.scope x:=by first | exact Or.inl rfl | exact Or.inr (Or.inl rfl) | exact Or.inr (Or.inr rfl)) (hd:(x == ("__debug__" : Str))=false:=by decide)
  (hcd:(x == ("__classdict__" : Str))=false:=by decide):PE X (.Name x pos) (XH i):=Q1 hN hv hd hcd
end
theorem pP {A B:Prop} (h:B):if false=true then A else B:=by
 rw[if_neg Bool.false_ne_true]
 exact h
theorem rP {A B:Prop} (h:A):if true=true then A else B:=by
 rw[if_pos rfl]
 exact h
theorem kD {c A B:Prop} [Decidable c] (h1:c→A) (h2:¬c→B):if c then A else B:=by
 by_cases h:c
 ·rw[if_pos h]
  exact h1 h
 ·rw[if_neg h]
  exact h2 h
theorem JO {c A B:Prop} [Decidable c] (hc:c) (h:B):if (!decide c)=true then A else B:=by
 rw[decide_eq_true hc]
 exact pP h
noncomputable def qx (H H':Hp):Prop:=∀b o,H b=some o→H' b=some o
theorem qx.refl (H:Hp):qx H H:=fun _ _ h=>h
theorem qx.trans {H H1 H2:Hp} (a:qx H H1) (b:qx H1 H2):qx H H2:=fun c o h=>b c o (a c o h)
theorem qx.free {H H':Hp} (e:qx H H') {l:Addr} (h:H' l=Option.none):H l=Option.none:=by
 cases q:H l with
 | none=>rfl
 | some o=>
  rw[e l o q] at h
  cases h
theorem qx.seq {K:PySem.W.Frag} {H H':Hp} {a:Addr} {xs:List V} (e:qx H H') (h:qC K H a xs):qC K H' a xs:=by
 rcases h with (h | ⟨o,h⟩) | h
 ·exact .inl (.inl (e _ _ h))
 ·exact .inl (.inr ⟨o,e _ _ h⟩)
 ·exact .inr h
end L2
namespace L2
open PySem PySem.Spec PyProof.Rows
section
variable {X:Cx}
end
noncomputable def V1 (z:Str):It:=⟨fun i _=>i < z.length,fun i H x H'=>H'=H∧∃c,z.cps[i]?=some c∧x=.str ⟨#[c]⟩,fun i _=>i=z.length⟩
section
variable {X:Cx} {tg:Expr}
noncomputable def Wh (tl:TE):TI:=fun σ H R=>tl σ H fun x H1=>∃z,x=.str z∧R (V1 z) H1
end
noncomputable def Wo:V→Option Int→Option Int→Hp→VK→Prop:=fun x lo hi H Q=>∃z,x=.str z∧z.length≤sizeLine∧Q (.str (Txt.slice z lo hi)) H
section
variable {X:Cx}
theorem tK {ns:List Str}:∀{us:List Value},Vals (ns.map V.str) us→StrsAre us ns:=by
 induction ns with
 | nil=>intro us h;cases h;exact .nil
 | cons n ns ih=>
  intro us h
  cases h with
  | cons r t=>
   obtain⟨tk,rfl⟩:=r
   exact .cons n tk (ih t)
noncomputable def rJoin (K:PySem.W.Frag):V→List V→Hp→VK→Prop:=fun x vs H Q=>∃z p ys,x=.str z∧vs=[.ref p]∧qC K H p (ys.map V.str)∧(ys.map (·.length)).sum + ys.length * z.length≤16777216∧Q (.str (Txt.join z ys)) H
theorem Zs:sg X "str.join" (rJoin X.K):=by
 intro pins s σ H x vs v us Q I rx rv h
 obtain⟨z,p,ys,rfl,rfl,hq,hz,q⟩:=h
 obtain⟨t,rfl⟩:=rx
 obtain⟨u,rfl,ru⟩:=rv.one
 cases ru
 obtain⟨its,r,pl,_⟩:=I.list hq
 exact join_list pl.isList (tK (by simpa using r)) hz fun t' k=>⟨.str (Txt.join z ys),H,I.tok _,⟨t',rfl⟩,q⟩
noncomputable def VX:R2:=fun x y H Q=>∃z n,x=.str z∧y=.int n∧MulOk z n∧Q (.str (Txt.mul z n)) H
noncomputable def VJ:V→List V→Hp→VK→Prop:=fun x vs H Q=>∃z y,x=.str z∧vs=[.str y]∧Q (.int (Txt.find z y)) H
noncomputable def rZ:V→Value
 | .ty n=>.type n
 | .ref a=>.ref a
 | _=>.none
theorem rz:vR X (.builtin "isinstance") (fun xs H Q=>∃x c t b,xs=[x,c]∧((∃n,c=.ty n)∨∃a,c=.ref a)∧kx X.K H x t∧PySem.W.kitOne X.K t (rZ c)=some b∧Q (.bl b) H):=by
 intro pins s σ H xs us Q I r h
 obtain⟨x,c,t,b,rfl,hc,ty,hk,q⟩:=h
 obtain⟨u,u',rfl,rx,rc⟩:=vals2 r
 have e:u'=rZ c:=by
  rcases hc with ⟨n,rfl⟩ | ⟨a,rfl⟩
  ·exact rc
  ·exact rc
 subst e
 exact oz I rx ty hk fun tk=>⟨.bl b,H,I.tok _,rfl,q⟩
mutual
inductive pf (K:PySem.W.Frag) (H:Hp):V→PyData→Prop where
 | non:pf K H .non .none
 | bl (b:Bool):pf K H (.bl b) (.bool b)
 | int (i:Int):pf K H (.int i) (.int i)
 | str (x:Str):pf K H (.str x) (.str x)
 | lst {a:Addr} {xs:List V} {ds:List PyData}:qC K H a xs→va K H xs ds→pf K H (.ref a) (.list ds)
 | tup {a:Addr} {xs:List V} {ds:List PyData}:kU K H a xs→va K H xs ds→pf K H (.ref a) (.tuple ds)
inductive va (K:PySem.W.Frag) (H:Hp):List V→List PyData→Prop where
 | nil:va K H [] []
 | cons {x:V} {xs:List V} {d:PyData} {ds:List PyData}:pf K H x d→va K H xs ds→va K H (x :: xs) (d :: ds)
end
mutual
theorem pf.reads {pins:List (Addr × Obj)} {σ:St} {H:Hp} {s:Shared} (I:Inv X pins σ H s):∀{x:V} {d:PyData} {v:Value},pf X.K H x d→RelV x v→∃as,Reads s.heap v d as
 | _,_,_,.non,r=>by cases r;exact⟨_,.none⟩
 | _,_,_,.bl b,r=>by cases r;exact⟨_,.bool b⟩
 | _,_,_,.int i,r=>by obtain⟨t,rfl⟩:=r;exact⟨_,.int i t⟩
 | _,_,_,.str x,r=>by obtain⟨t,rfl⟩:=r;exact⟨_,.str x t⟩
 | _,_,_,.lst hq rs,r=>by
  cases r
  obtain⟨its,rv,pl,_⟩:=I.list hq
  obtain⟨as,ra⟩:=va.reads I rs rv
  obtain⟨o,n,e,c,_,d⟩:=pl
  exact⟨_,.list e c d (by simpa using ra)⟩
 | _,_,_,.tup hq rs,r=>by
  cases r
  obtain⟨its,rv,pl,_⟩:=I.tuple hq
  obtain⟨as,ra⟩:=va.reads I rs rv
  obtain⟨o,e,c,n,d⟩:=pl
  exact⟨_,.tuple e c d (by simpa using ra)⟩
theorem va.reads {pins:List (Addr × Obj)} {σ:St} {H:Hp} {s:Shared} (I:Inv X pins σ H s):∀{xs:List V} {ds:List PyData} {vs:List Value},va X.K H xs ds→Vals xs vs→∃as,ReadsAll s.heap vs ds as
 | _,_,_,.nil,r=>by cases r;exact⟨_,.nil⟩
 | _,_,_,.cons q qs,r=>by
  cases r with
  | cons r rs=>
   obtain⟨as,ra⟩:=pf.reads I q r
   obtain⟨bs,rb⟩:=va.reads I qs rs
   exact⟨_,.cons ra rb⟩
end
noncomputable def ZY (K:PySem.W.Frag) (neg:Bool):R2:=fun x y H Q=>∃d e,pf K H x d∧pf K H y e∧SeqAt.shaped d=true∧SeqAt.shaped e=true∧Q (.bl (if neg then !PyData.eqv d e else PyData.eqv d e)) H
theorem QR (hu:X.A.units + 64 < cLine):bg X (compareOp .Eq) (ZY X.K false):=by
 intro pins s σ H x y v u Q I rx ry h
 obtain⟨d,e,h1,h2,h3,h4,q⟩:=h
 obtain⟨as,ra⟩:=h1.reads I rx
 obtain⟨bs,rb⟩:=h2.reads I ry
 exact eq_dataH ra rb h3 h4 hu ⟨.bl _,H,I,rfl,q⟩
theorem QL (hu:X.A.units + 64 < cLine):bg X (compareOp .NotEq) (ZY X.K true):=by
 intro pins s σ H x y v u Q I rx ry h
 obtain⟨d,e,h1,h2,h3,h4,q⟩:=h
 obtain⟨as,ra⟩:=h1.reads I rx
 obtain⟨bs,rb⟩:=h2.reads I ry
 exact ne_dataH ra rb h3 h4 hu ⟨.bl _,H,I,rfl,q⟩
theorem va.strs {K:PySem.W.Frag} {H:Hp}:∀xs:List Str,va K H (xs.map V.str) (xs.map PyData.str)
 | []=>.nil
 | x :: r=>.cons (.str x) (va.strs r)
theorem eqvAll_map {α : Type} [DecidableEq α] {f : α → PyData} (hf : ∀ x y, PyData.eqv (f x) (f y) = decide (x = y)) (xs : List α) : ∀ ys : List α, PyData.eqvAll (xs.map f) (ys.map f) = decide (xs = ys) := by
  induction xs with
  | nil => intro ys; cases ys <;> simp [PyData.eqvAll]
  | cons x r ih =>
    intro ys
    cases ys
    · simp [PyData.eqvAll]
    · simp [PyData.eqvAll, hf, ih]
theorem gb (xs ys : List Str) : PyData.eqvAll (xs.map PyData.str) (ys.map PyData.str) = decide (xs = ys) := eqvAll_map (fun x y => by rw [PyData.eqv]; by_cases h : x = y <;> simp [h]) xs ys
theorem gy:∀xs:List Str,(∀x∈xs,PyData.strOk x=true)→PyData.canLayAll0 (xs.map PyData.str)=true∧PyData.depthAll (xs.map PyData.str)=0
 | [],_=>⟨rfl,rfl⟩
 | x :: r,h=>by
  have q:=gy r fun y hy=>h y (List.mem_cons_of_mem _ hy)
  simp [PyData.canLayAll0,PyData.canLay0,PyData.depthAll,PyData.depth,q.1,q.2,h x List.mem_cons_self]
theorem vn {xs:List Str} (h:∀x∈xs,PyData.strOk x=true):SeqAt.shaped (.list (xs.map PyData.str))=true:=by
 have q:=gy xs h
 simp [SeqAt.shaped,PyData.canLay0,PyData.depth,q.1,q.2]
end
section
variable {X:Cx} {CX:d9} {k:Nat} {f C:Addr} {fd:FuncData} {ps:List Str} {sp:Sp} {dvs:List V} {ds:List Value} {E:XK} {x m:Str} {p pos apos:Pos} {e:Expr} {es:List Expr} {t:TA}
structure ij (K:PySem.W.Frag) (C:Addr) (m:Str) (f:Addr):Prop where
 ga:PySem.W.specialIn K (.ref C) "__getattribute__" = some (some (.builtin "type.__getattribute__"))
 rd:PySem.W.readsIn K C (.type "type")=true
 at_:PySem.W.findCls K (.ref C) (.type "type") m=some (.val (.ref f))
 kp:PySem.W.keepIn K (.ref f)=true
theorem dN {pl:Sem Bool} (hg:Gl X x) (hm:X.mg x=some (.ref C)) (c:ij X.K C m f) (F:qJ X.prog X.w X.K X.mg X.base CX k f fd ps sp) (hr:vy k X.A) (hb:Binds X.K fd ps ds) (hd:Vals dvs ds) (hx:Passes CX X E) (ha:PA X (e :: es) t)
  (hst:starEach (e :: es) X.env=(false,eval e X.env) :: starEach es X.env:=by rfl) (hpl:(backTo pos (starEach es X.env)).any (·.1)=false:=by rfl) (hdb:(x == ("__debug__" : Str))=false:=by decide)
  (ht:eval (.Call (.Attribute (.Name x p) m apos) (e :: es) [] pos) X.env=(do
   let ov ←eval (.Name x p) X.env
   standAt apos.atName
   let (f,first) ←holding [ov] (getMethod ov m pl)
   callWith pos f first (backTo pos (starEach (e :: es) X.env)) (backToKw pos (keywordEach [] X.env))):=by rfl) :
  PE X (.Call (.Attribute (.Name x p) m apos) (e :: es) [] pos) (Qw sp dvs E t):=by
 intro pins s σ H Q I h
 refine PySem.W.methodCall_KW (pl:=pl) (mL I hg hm ?_ hdb) ht
 refine PySem.W.method_cls I.fe c.ga (PySem.W.cls_value I.fe c.rd c.at_ rfl ?_)
 refine PySem.W.callWith_K (first:=[]) (h₀:=X.base) I.ok.mod.Jd c.kp (xy (ha pos pins _ σ H _ (I.tok _) h) fun us s1 ⟨vs,H1,I1,r,q⟩=>⟨I1.fe,?_⟩) hst hpl
 exact uM F hr hb hd hx I1 r q
end
end L2
namespace L2
open PySem PySem.Spec PyProof.Rows
noncomputable def jk (env:Env):List (Str × NameKind)→List (Str × Addr)→List (Str × Addr)
 | [],acc=>acc
 | (n,k) :: r,acc=>jk env r (if k == .free then (n,(env.cells.lookup n).getD 0) :: acc else acc)
theorem bb {sc:Scope} {env:Env} (h:∀y∈sc.names,y.2=.free→∃c,env.cells.lookup y.1=some c):closureFor sc env=pure (jk env sc.names []):=by
 simp only[closureFor]
 have key:∀(l:List (Str × NameKind)) (acc:List (Str × Addr)),(∀y∈l,y.2=.free→∃c,env.cells.lookup y.1=some c)→
   (forIn l acc (fun (x:Str × NameKind) (r:List (Str × Addr))=>if (x.2 == NameKind.free)=true then do let a ←cellOf env x.1;pure (ForInStep.yield ((x.1,a) :: r)) else pure (ForInStep.yield r)):Sem (List (Str × Addr)))=pure (jk env l acc):=by
  intro l
  induction l with
  | nil=>intro acc _;rfl
  | cons y r ih=>
   intro acc hl
   obtain⟨n,k⟩:=y
   rw[List.forIn_cons]
   have ih':=fun acc=>ih acc fun z hz=>hl z (List.mem_cons_of_mem _ hz)
   by_cases hk:(k == NameKind.free)=true
   ·obtain⟨c,hc⟩:=hl (n,k) List.mem_cons_self (by simpa using hk)
    have hc':env.cells.lookup n=some c:=hc
    have e1:cellOf env n=pure c:=by unfold cellOf;rw[hc']
    simp only[hk,if_true,e1,jk,hc',Option.getD_some]
    exact ih' _
   ·simp only[hk,jk]
    exact ih' _
 rw[key sc.names [] h]
 rfl
theorem kn {env:Env}:∀(l:List (Str × NameKind)) (acc:List (Str × Addr)),(∀z c,acc.lookup z=some c→c=(env.cells.lookup z).getD 0)→
  (∀z c,(jk env l acc).lookup z=some c→c=(env.cells.lookup z).getD 0)∧(∀z,(jk env l acc).lookup z=none↔(acc.lookup z=none∧(z,NameKind.free)∉l))
 | [],acc,h=>⟨h,fun z=>by simp [jk]⟩
 | (n,k) :: r,acc,h=>by
  by_cases hk:(k == NameKind.free)=true
  ·have hk':k=.free:=by simpa using hk
   subst hk'
   have h':∀z c,((n,(env.cells.lookup n).getD 0) :: acc).lookup z=some c→c=(env.cells.lookup z).getD 0:=by
    intro z c e
    rw[List.lookup_cons] at e
    cases hz:z == n with
    | true=>
     rw[hz] at e
     have e':(env.cells.lookup n).getD 0=c:=by simpa using e
     rw[beq_iff_eq.mp hz,e']
    | false=>
     rw[hz] at e
     exact h z c (by simpa using e)
   obtain⟨a,b⟩:=kn r _ h'
   refine⟨by simpa [jk] using a,fun z=>?_⟩
   have b':=b z
   show (jk env r (if (NameKind.free == NameKind.free)=true then _ else acc)).lookup z=none↔_
   rw[if_pos hk,b',List.lookup_cons]
   cases hz:z == n with
   | true=>
    have:z=n:=beq_iff_eq.mp hz
    subst this
    simp
   | false=>
    have hne:z≠n:=by intro q;subst q;simp at hz
    simp [hne]
  ·obtain⟨a,b⟩:=kn r acc h
   have e0:jk env ((n,k) :: r) acc=jk env r acc:=by
    show jk env r (if (k == NameKind.free)=true then _ else acc)=_
    rw[if_neg hk]
   rw[e0]
   refine⟨a,fun z=>?_⟩
   rw[b z]
   have hne:¬(NameKind.free=k):=by intro q;subst q;exact hk rfl
   simp [hne]
/-- a map that leaves the keys alone changes what stands behind a key, and nothing else -/
theorem lookup_vals {α β : Type} {f : Str × α → Str × β} (hf : ∀ p, (f p).1 = p.1) (x : Str) (l : List (Str × α)) : (l.map f).lookup x = (l.lookup x).map fun k => (f (x, k)).2 := by
  induction l with
  | nil => rfl
  | cons p r ih =>
    obtain ⟨n, k⟩ := p
    have e : f (n, k) = (n, (f (n, k)).2) := Prod.ext (hf _) rfl
    rw [List.map_cons, e]
    by_cases q : x = n
    · subst q
      simp [List.lookup_cons]
    · simp [List.lookup_cons, beq_false_of_ne q, ih]
theorem xC {env : Env} {sc : Scope} {x : Str} : (relabel sc env).names.lookup x = (sc.names.lookup x).map fun k => if k == .free && env.scope.kind == .function && env.kindOf x == some .cell then .cell else k := by
  show (List.map _ sc.names).lookup x = _
  rw [lookup_vals (fun p => by dsimp only; split <;> rfl)]
  congr 1
  funext k
  dsimp only
  split <;> rfl
structure yj (osc:Scope) (N:List Str) (sc:Scope) (x:Str) (names:List Str) (qH:List Nat):Prop where
 kind:sc.kind=.function
 dF:∀y∈sc.names,y.2≠.cell
 locs:∀y∈sc.names,y.2=.local→sc.names.lookup y.1=some .local
 frees:∀y∈sc.names,y.2=.free→osc.names.lookup y.1=some .cell
 own:sc.names.lookup x=some .local
 qH:names.map some=qH.map fun i=>N[i]?
 sX:∀y∈names,sc.names.lookup y=some .free
 nd:(x :: names).Nodup
noncomputable def vZ (X:Cx) (sc:Scope) (x:Str) (names:List Str) (fp:List Addr) (s₀:Shared) (H₀:Hp):Cx where
 prog:=X.prog
 w:=X.w
 K:=X.K
 mg:=X.mg
 base:=X.base
 A:=X.A
 N:=x :: names
 s₀:=s₀
 H₀:=H₀
 env:=compEnvC sc (jk X.env sc.names []) s₀.heap.objs.size X.env
 outer:=X.stack
 stack:=X.stack
 ex:=fp
 fn:=fun _=>false
 calm:=X.calm
 pn:=[]
 xe:=fun _ _=>False
noncomputable def vT (σ:St) (qH:List Nat):St:=qH.map fun i=>(σ[i]?).join
noncomputable def tM (J:It) (qH:List Nat) (te:TE) (σ:St) (Q:VK) (H1:Hp):Prop:=∀D,H1 D=none→∃W:Nat→Nat→Hp→Prop,(∃m,W 0 m (upd H1 D (.lst [])))∧∀i m H2,W i m H2→
 (J.stop i H2∧Q (.ref D) H2)∨(J.go i H2∧∀y H3,J.aD i H2 y H3→te (some y :: vT σ qH) H3 fun v H4=>∃ys,H4 D=some (.lst ys)∧ys.length < sizeLine∧∃m',m' < m∧W (i + 1) m' (upd H4 D (.lst (ys ++ [v]))))
noncomputable def Qy (qH:List Nat) (wi:TI) (te:TE):TE:=fun σ H Q=>wi σ H fun J H1=>tM J qH te σ Q H1
/-- what comes behind what is known of a first step -/
theorem sq2 {M : Model} {A : Around} {E : Value → Shared → Prop} {s : Shared} {α β : Type} {x : Sem α} {f : α → Sem β} {Q1 : α → Shared → Prop} {Q : β → Shared → Prop} (h : wpAny M A x Q1 E s) (k : ∀ a s1, Q1 a s1 → wpAny M A (f a) Q E s1) : wpAny M A (x >>= f) Q E s := wpAny_bind (xy h k)
/-- a step of a comprehension's turn: what it raises is noted in the comprehension's own frame -/
abbrev Noted (prog : Program) (w : World) (A : Around) (env : Env) (R : Result → Shared → Prop) {α : Type} (x : Sem α) (Q : α → Shared → Prop) (s : Shared) : Prop := wpAny (model prog w) A x Q (notedBy (model prog w) A env fun e => R (.error e)) s
abbrev testB (env : Env) (c : Expr) (r : Bool) : Sem (ForInStep Bool) := if r = true then isTrue c env (eval c env) >>= fun ok => pure (.yield ok) else pure (.yield r)
section
variable {prog:Program} {w:World} {A:Around} {R:Result→Shared→Prop} {s:Shared}
theorem rJ {el tg src : Expr} {scope : Scope} {pos : Pos} {it acc : Value} {env : Env} (I : Nat → Shared → Prop)
    (turn : ∀ n s, I n s → Noted prog w A env R (pyNext it) (fun r s1 => match r with
      | none => R (.ok .next) s1
      | some v => Noted prog w A env R (letOwnedTupleGo tg it v) (fun _ => Noted prog w A env R (assign tg env v) fun _ => Noted prog w A env R (eval el env) fun x => Noted prog w A env R (call (.builtin "list.append") [acc, x]) fun _ s5 => ∃ m, m < n ∧ I m s5) s1) s) (n : Nat) (h : I n s) :
    codeAny (model prog w) A (.compLoop (.ListComp el [⟨tg, src, [], 0⟩] scope pos) 0 it acc env) R s := by
  refine codeAny_loop rfl I (fun k s1 hI => (?_ : wpAny _ _ (Sem.onRaise _ _) _ _ _)) n h
  refine wpAny_noted (compTurn_list .. ▸ wpAny_bind (wpAny_standAt (sq2 (turn k s1 hI) fun r s2 hr => ?_)))
  cases r
  · exact wpAny_pure hr
  · exact sq2 hr fun _ _ a => sq2 a fun _ _ b => wpAny_bind (wpAny_tests_nil (sq2 (sq2 b fun _ _ c => sq2 c fun _ _ d => wpAny_pure d) fun _ _ e => wpAny_pure ⟨rfl, e⟩))
end
section
variable {X:Cx}
theorem Qn {pins:List (Addr × Obj)} {σ:St} {H:Hp} {s:Shared} {osc:Scope} {N:List Str} {sc:Scope} {x:Str} {names:List Str} {qH:List Nat} {fp:List Addr}
  (hos:X.env.scope=osc) (cs:yj osc N sc x names qH) (I:Inv X pins σ H s) (hf:∀b∈fp,wD X pins H b) (hlt:∀b∈fp,b < s.heap.objs.size):(vZ X sc x names fp s H).Ok:=by
 subst hos
 have cl:=kn (env:=X.env) sc.names [] (fun z c e=>by simp at e)
 have hcl:∀y c,(jk X.env sc.names []).lookup y=some c→X.env.cells.lookup y=some c:=fun y c e=>by
  have e1:=cl.1 y c e
  have hm:(y,NameKind.free)∈sc.names:=by
   by_cases q:(y,NameKind.free)∈sc.names
   ·exact q
   ·have:=(cl.2 y).mpr ⟨rfl,q⟩
    rw[this] at e;cases e
  obtain⟨c',hc'⟩:=I.ok.has y (.inl (cs.frees _ hm rfl))
  rw[hc'] at e1 ⊢
  rw[e1];rfl
 refine⟨I.ok.mod,?_,I.ok.glob,I.ok.blt,Nat.le_refl _,fun y z c h1 h2=>I.ok.inj y z c (hcl y c h1) (hcl z c h2),fun y hy=>?_,fun y c h=>?_,I.ok.hd,I.ok.frames,.inl rfl,fun b hb=>⟨?_,fun y c h=>?_⟩,
  I.bs,Nat.le_trans I.ok.oA I.sz,fun b o e hb=>?_,fun b hb z=>?_,I.stack,I.uO⟩
 ·exact cs.kind
 ·have hy':(relabel sc X.env).names.lookup y=some .cell∨(relabel sc X.env).names.lookup y=some .free:=hy
  have key:sc.names.lookup y=some .free:=by
   rw[xC] at hy'
   cases q:sc.names.lookup y with
   | none=>rw[q] at hy';simp at hy'
   | some k=>
    rw[q] at hy'
    have hm:=PySem.mem_of_lookup q
    have hnc:=cs.dF _ hm
    by_cases hk:k=.free
    ·rw[hk]
    ·have e:(if (k == NameKind.free && X.env.scope.kind == .function && X.env.kindOf y == some .cell)=true then NameKind.cell else k)=k:=if_neg (by simp [hk])
     rw[Option.map_some,e] at hy'
     rcases hy' with z | z
     ·exact absurd (Option.some.inj z) hnc
     ·exact absurd (Option.some.inj z) hk
  have hm:=PySem.mem_of_lookup key
  cases q:(jk X.env sc.names []).lookup y with
  | some c=>exact⟨c,q⟩
  | none=>exact absurd hm ((cl.2 y).mp q).2
 ·exact absurd (show false=true from h) (by simp)
 ·exact Nat.ne_of_lt (hlt b hb)
 ·exact(hf b hb).2.2.2.2.1 y c (hcl y c h)
 ·rcases(hf b hb).2.2.2.1 with z | z
  ·exact I.ok.ot b o e z
  ·exact absurd (Nat.lt_of_lt_of_le (Heap.lt_size e) (Nat.le_trans I.ok.oA z)) (Nat.lt_irrefl _)
 ·rcases List.mem_cons.mp (I.uI b z) with q | q
  ·exact(hf b hb).2.1 q
  ·exact(hf b hb).2.2.1 q
theorem rX {pins:List (Addr × Obj)} {σ:St} {s₂:Shared} {osc:Scope} {N:List Str} {sc:Scope} {x:Str} {px pos:Pos} {elt iter:Expr} {names:List Str} {qH:List Nat} {te:TE} {E:Value→Shared→Prop}
  {RR:Value→Addr→Result→Shared→Prop} {H2:Hp} {it:Addr} {fp:List Addr} {tn:Nat→Heap→Prop} {J:It} {Qd:V→Hp→Prop}
  (hc:X.calm=true) (hos:X.env.scope=osc) (hN:X.N=N) (cs:yj osc N sc x names qH) (he:∀fp s₀ H₀,PE (vZ X sc x names fp s₀ H₀) elt te)
  (I2:Inv X pins σ H2 s₂) (T:Turn X.prog X.w X.K (.Name x px) J fp it tn) (st2:tn 0 s₂.heap) (f2:∀b∈fp,wD X pins H2 b)
  (hW:tM J qH te σ Qd H2)
  (cont:∀D C H5 s6 m,Inv X pins σ H5 s6→s6.heap.Ns C m→wD X pins H5 C→Qd (.ref D) H5→RR (.ref D) C (.ok .next) s6) :
  wpAny (model X.prog X.w) X.A (newList []) (fun acc s₃=>wpAny (model X.prog X.w) X.A (newFunctionEnv sc X.env.globals (jk X.env sc.names []) [] X.env.qual none .none (some X.env)) (fun cenv s₄=>
   codeAny (model X.prog X.w) X.A (.compStart (.ListComp elt [⟨.Name x px,iter,[],0⟩] sc pos) 0 (.ref it) acc { cenv with scope:=relabel sc X.env }) (RR acc cenv.locals) s₄) E s₃) E s₂:=by
 subst hN
 refine wpAny_newObj_type (wpAny_newFunctionEnv cs.dF (by intro y hy;simp at hy) (fun h₁ hns₁ hsb₁=>?_) cs.kind)
 dsimp only at hns₁ hsb₁ ⊢
 have fp2:∀b∈fp,b < s₂.heap.objs.size:=fun b hb=>by
  obtain⟨o,e,_⟩:=T.obj _ _ st2 b hb
  exact Heap.lt_size e
 have I3:Inv X pins σ (upd H2 s₂.heap.objs.size (.lst [])) { s₂ with heap:=s₂.heap.push { cls:=.type "list",dict:=none,data:=.seq ([]:List Value).toArray } }:=I2.Zr (t':=s₂.toks) (its:=[]) .nil (Nat.zero_le _)
 obtain⟨W,⟨m0,w0⟩,turn⟩:=hW s₂.heap.objs.size I2.fresh
 have f3:∀b∈fp,wD X pins (upd H2 s₂.heap.objs.size (.lst [])) b:=fun b hb=>⟨by rw[qY (Nat.ne_of_lt (fp2 b hb))];exact(f2 b hb).1,(f2 b hb).2⟩
 have hD:∀b o,s₂.heap.get? b=some o→(s₂.heap.push { cls:=.type "list",dict:=none,data:=.seq ([]:List Value).toArray }).get? b=some o:=fun b o e=>Heap.get?_push_of_some _ e
 generalize hs3:({ s₂ with heap:=s₂.heap.push { cls:=.type "list",dict:=none,data:=.seq ([]:List Value).toArray } }:Shared)=s₃ at *
 have hs3h:s₃.heap=s₂.heap.push { cls:=.type "list",dict:=none,data:=.seq ([]:List Value).toArray }:=by rw[←hs3]
 rw[←hs3h] at hns₁ hsb₁ hD ⊢
 have sv:∀b∈fp,b < s₃.heap.objs.size:=fun b hb=>by
  rw[hs3h,Heap.size_push];exact Nat.lt_succ_of_lt (fp2 b hb)
 have k3:∀b o,s₃.heap.get? b=some o→h₁.get? b=some o:=fun b o e=>hsb₁.extBut b o (Nat.ne_of_lt (Heap.lt_size e)) (Heap.get?_push_of_some _ e)
 have ok:=Qn hos cs I3 f3 sv
 have cl:=kn (env:=X.env) sc.names [] (fun z c e=>by simp at e)
 have hcl:∀y c,(jk X.env sc.names []).lookup y=some c→X.env.cells.lookup y=some c:=fun y c e=>by
  have e1:=cl.1 y c e
  have hm:(y,NameKind.free)∈sc.names:=by
   by_cases q:(y,NameKind.free)∈sc.names
   ·exact q
   ·have:=(cl.2 y).mpr ⟨rfl,q⟩
    rw[this] at e;cases e
  obtain⟨c',hc'⟩:=I3.ok.has y (.inl (by show X.env.scope.names.lookup y=_;rw[hos];exact cs.frees _ hm rfl))
  rw[hc'] at e1 ⊢
  rw[e1];rfl
 have cell4:∀y c,(jk X.env sc.names []).lookup y=some c→∀v,s₃.heap.IsCell c v→h₁.IsCell c v:=fun y c e v ⟨o,ho,hd⟩=>⟨o,k3 _ _ ho,hd⟩
 have lenC:qH.length=names.length:=by have:=congrArg List.length cs.qH;simpa using this.symm
 have I4:∀tk,Inv (vZ X sc x names fp s₃ (upd H2 s₂.heap.objs.size (.lst []))) [] (none :: vT σ qH) (upd H2 s₂.heap.objs.size (.lst [])) { s₃ with heap:=h₁,toks:=tk }:=fun tk=>by
  refine⟨ok,rfl,I3.bare,Un.kept k3,⟨_,hns₁,fun i y v e1 e2 e3=>?_⟩,fun y c e=>?_,I3.fresh,fun y c e=>I3.yA y c (hcl y c e),fun p hp=>absurd (show p∈([]:List (Addr × Obj)) from hp) (by simp),I3.jG.kept k3,?_⟩
  ·cases i with
   | zero=>simp at e2
   | succ j=>
    have e1':names[j]?=some y:=by simpa [vZ] using e1
    have e2':(vT σ qH)[j]?=some (some v):=by simpa using e2
    unfold vT at e2'
    rw[List.getElem?_map] at e2'
    cases qc:qH[j]? with
    | none=>rw[qc] at e2';cases e2'
    | some i0=>
     rw[qc] at e2'
     have e2'':(σ[i0]?).join=some v:=by simpa using e2'
     have e3':σ[i0]?=some (some v):=by
      cases qs:σ[i0]? with
      | none=>rw[qs] at e2'';cases e2''
      | some o=>rw[qs] at e2'';rw[show o=some v from by simpa using e2'']
     have eN:X.N[i0]?=some y:=by
      have q1:(names.map some)[j]?=(qH.map fun i=>X.N[i]?)[j]?:=by rw[cs.qH]
      rw[List.getElem?_map,List.getElem?_map,e1',qc] at q1
      have q2:some y=X.N[i0]?:=by simpa using q1
      exact q2.symm
     have hfree:=cs.sX y (List.mem_of_getElem? e1')
     have hm:=PySem.mem_of_lookup hfree
     have hcell:X.env.scope.names.lookup y=some .cell:=by rw[hos];exact cs.frees _ hm rfl
     obtain⟨m,hn,hl⟩:=I3.loc
     obtain⟨u,ru,lk⟩:=hl i0 y v eN e3' (.inr (.inl hcell))
     refine⟨u,ru,?_⟩
     rcases lk with ⟨kk,_⟩ | ⟨kk,c,ec,hcl'⟩
     ·have kk':X.env.scope.names.lookup y=some .local:=kk
      rw[hcell] at kk';cases kk'
     ·refine .inr ⟨?_,c,?_,?_⟩
      ·left
       show (relabel sc X.env).names.lookup y=some .cell
       rw[xC,hfree]
       have ef:(X.env.scope.kind == ScopeKind.function)=true:=by rw[I3.ok.kind];rfl
       have ek:(X.env.kindOf y == some NameKind.cell)=true:=by
        show (X.env.scope.names.lookup y == some NameKind.cell)=true
        rw[hcell];rfl
       simp [ef,ek]
      ·show (jk X.env sc.names []).lookup y=some c
       cases q:(jk X.env sc.names []).lookup y with
       | none=>exact absurd hm ((cl.2 y).mp q).2
       | some c'=>
        have:=hcl y c' q
        rw[ec] at this
        exact this.symm
      ·obtain⟨o,ho,hd⟩:=hcl'
       exact⟨o,k3 _ _ ho,hd⟩
  ·obtain⟨v,hv⟩:=I3.cell y c (hcl y c e)
   exact⟨v,cell4 y c e v hv⟩
  ·show (none :: vT σ qH).length=(x :: names).length
   unfold vT
   simp [lenC]
 have st4:tn 0 h₁:=T.keep _ _ _ st2 fun b hb o e=>k3 b o (by rw[hs3h];exact Heap.get?_push_of_some _ e)
 have fpok:∀{H':Hp},(∀b∈fp,H' b=none)→∀b∈fp,wD (vZ X sc x names fp s₃ (upd H2 s₂.heap.objs.size (.lst []))) [] H' b:=fun hn b hb=>
  ⟨hn b hb,(ok.Jp b hb).1,ok.nN b hb,.inl hb,(ok.Jp b hb).2,fun p hp=>absurd (show p∈([]:List (Addr × Obj)) from hp) (by simp)⟩
 have loop:∀s₄:Shared,s₄={ s₃ with heap:=h₁,toks:=s₃.toks + ([]:List (Str × Value)).length }→
   codeAny (model X.prog X.w) X.A (.compLoop (.ListComp elt [⟨.Name x px,iter,[],0⟩] sc pos) 0 (.ref it) (.ref s₂.heap.objs.size) (compEnvC sc (jk X.env sc.names []) s₃.heap.objs.size X.env))
    (RR (.ref s₂.heap.objs.size) s₃.heap.objs.size) s₄:=by
  rintro s₄ rfl
  refine rJ (fun n s'=>∃i H',Inv (vZ X sc x names fp s₃ (upd H2 s₂.heap.objs.size (.lst []))) [] (none :: vT σ qH) H' s'∧tn i s'.heap∧(∀b∈fp,H' b=none)∧W i n H') ?_ m0
   ⟨0,_,I4 _,st4,fun b hb=>(f3 b hb).1,w0⟩
  rintro n s5 ⟨i,H5,I5,st5,fr5,w5⟩
  rcases turn i n H5 w5 with ⟨stop,q⟩ | ⟨go,step⟩
  ·refine xy (T.done (vZ X sc x names fp s₃ (upd H2 s₂.heap.objs.size (.lst []))) rfl rfl rfl hc i [] s5 _ H5 _ I5 (fpok fr5) st5 stop) fun r s6 ⟨hr,I6⟩=>?_
   subst hr
   obtain⟨m,hn,_⟩:=I6.loc
   have J6:Inv X pins σ H5 s6:=I3.Z1 (ch:=fp) I6.os I6.base I6.jG I6.bare fun b hb=>⟨(f3 b hb).2.2.2.1,(f3 b hb).2.1,(f3 b hb).2.2.2.2.1,(f3 b hb).2.2.2.2.2⟩
   exact cont _ _ H5 s6 m J6 hn (I3.iR (H':=H5) (Nat.le_refl _) I6.free) q
  ·refine xy (T.item (vZ X sc x names fp s₃ (upd H2 s₂.heap.objs.size (.lst []))) rfl rfl rfl hc i [] s5 _ H5 _ I5 (fpok fr5) st5 go) fun r s6 ⟨u,hr,h6⟩=>?_
   subst hr
   refine xy h6 fun _ s6' ⟨y,H6,I6,r6,y6,st6,fr6⟩=>?_
   have I6':=I6.pinned (fpok fr6) (T.obj _ _ st6)
   have own':(relabel sc X.env).names.lookup x=some .local:=lookup_relabel_local cs.own
   refine wpAny_mono (jn (X:=vZ X sc x names fp s₃ (upd H2 s₂.heap.objs.size (.lst []))) (i:=0) (x:=x) (pos:=px) cs.nd rfl (.inl own') (.inr own') _ s6' _ H6 y u (fun σ' H'=>σ'=(none :: vT σ qH).set 0 (some y)∧H'=H6) I6' r6 ⟨rfl,rfl⟩)
    (fun _ s7 ⟨σ7,H7,I7,e7,e7'⟩=>?_) fun _ _ z=>False.elim z
   subst e7 e7'
   refine wpAny_mono (he fp s₃ _ _ s7 _ H7 _ I7 (step y H7 y6)) (fun v s8 ⟨vv,H8,I8,r8,ys,hD8,hz8,m',hm',w8⟩=>?_) fun _ _ z=>False.elim z
   refine wpAny_mono (fF (X:=vZ X sc x names fp s₃ (upd H2 s₂.heap.objs.size (.lst []))) _ s8 _ H8 (.ref s₂.heap.objs.size) [vv] (.ref s₂.heap.objs.size) [v] (fun _ H'=>H'=upd H8 s₂.heap.objs.size (.lst (ys ++ [vv]))) I8 rfl (.cons r8 .nil)
    ⟨_,ys,vv,rfl,rfl,hD8,hz8,rfl⟩) (fun _ s9 ⟨_,H9,I9,_,e9⟩=>?_) fun _ _ z=>False.elim z
   subst e9
   refine⟨m',hm',i + 1,_,(I9.vo).weak ?_ ?_,T.keep _ _ _ st6 fun b hb o e=>(I9.pin (b,o) (List.mem_append_right _ (List.mem_append_right _ (kT hb e)))).1,fun b hb=>?_,w8⟩
   ·simp
   ·intro j v' ej
    cases j with
    | zero=>simp at ej
    | succ j=>simpa using ej
   ·obtain⟨o,e,d⟩:=T.obj _ _ st6 b hb
    exact(I9.pin (b,o) (List.mem_append_right _ (List.mem_append_right _ (kT hb e)))).2.1
 exact codeAny_compStart_list (loop _ (by rw[←hs3])) (T.self _ 0 _ _ _ st4 (loop _ (by rw[←hs3])))
theorem cM {pins:List (Addr × Obj)} {σ:St} {H:Hp} {s:Shared} {osc:Scope} {N:List Str} {sc:Scope} {x:Str} {names:List Str} {qH:List Nat} (hos:X.env.scope=osc) (cs:yj osc N sc x names qH) (I:Inv X pins σ H s) :
  closureFor sc X.env=pure (jk X.env sc.names []):=
 bb fun y hy hk=>I.ok.has y.1 (.inl (by show X.env.scope.names.lookup y.1=_;rw[hos];exact cs.frees y hy hk))
theorem yc {osc:Scope} {N:List Str} {sc:Scope} {x:Str} {px pos:Pos} {elt iter:Expr} {names:List Str} {qH:List Nat} {wi:TI} {te:TE}
  (hc:X.calm=true) (hos:X.env.scope=osc) (hN:X.N=N) (cs:yj osc N sc x names qH) (hi:PI X (.Name x px) iter wi) (he:∀fp s₀ H₀,PE (vZ X sc x names fp s₀ H₀) elt te)
  (hs:∀v,foldedSetIterable iter X.env v=pure v:=by intro _;rfl):PE X (.ListComp elt [⟨.Name x px,iter,[],0⟩] sc pos) (Qy qH wi te):=by
 intro pins s σ H Q I h
 rw[eval_ListComp]
 refine wpAny_comprehension_free (use:=none) rfl hs (cM hos cs I) cs.kind cs.locs (xy (hi pins s σ H _ I h) fun xv s1 h1=>xy h1 fun itv s2 h2=>?_)
 obtain⟨it,fp,tn,J,H2,rfl,I2,T,st2,f2,hW⟩:=h2
 refine rX (Qd:=Q) (RR:=fun acc C=>compPost (model X.prog X.w) X.A X.xe none (EP X pins σ Q) acc C) hc hos hN cs he I2 T st2 f2 hW fun D C H5 s6 m I6 hn fC q=>?_
 refine⟨m,hn,fun h' sb=>?_⟩
 obtain⟨g0,g1,g2,g3,g4,g5⟩:=fC
 exact⟨.ref D,H5,I6.turned (t':=s6.toks) (it:=C) (fun b o hb e=>sb.extBut b o hb e) g0 g1 g3 g4 g5,rfl,q⟩
theorem yS {osc:Scope} {N:List Str} {sc:Scope} {x y:Str} {px py pos spos:Pos} {elt iter:Expr} {names:List Str} {qH:List Nat} {wi:TI} {te:TE} {i:Nat}
  (hc:X.calm=true) (hos:X.env.scope=osc) (hN:X.N=N) (nd:X.N.Nodup) (cs:yj osc N sc x names qH) (hi':X.N[i]?=some y) (hy:X.env.scope.names.lookup y=some .local) (hi:PI X (.Name x px) iter wi)
  (he:∀fp s₀ H₀,PE (vZ X sc x names fp s₀ H₀) elt te) (hsw:swapsWith (.ListComp elt [⟨.Name x px,iter,[],0⟩] sc pos) (some (.Name y py)) spos.line X.env=pure true:=by rfl)
  (hs:∀v,foldedSetIterable iter X.env v=pure v:=by intro _;rfl):PS X (.Assign [.Name y py] (.ListComp elt [⟨.Name x px,iter,[],0⟩] sc pos) spos) (ZU (Qy qH wi te) (kY i)):=by
 intro pins s σ H D I h
 rw[exec_Assign_Name_used _ _ _ _ hsw]
 refine wpAny_bind (wpAny_standAt (wpAny_bind ?_))
 show wpAny _ X.A (do let _ ←comprehension (.ListComp elt [⟨.Name x px,iter,[],0⟩] sc pos) sc X.env _ (newList []) false (eval iter X.env) (some (assign (.Name y py) X.env))) _ _ s
 refine wpAny_bind (wpAny_mono (wpAny_comprehension_free (use:=some (assign (.Name y py) X.env)) (Q:=fun _ s'=>SP X pins D .next s') rfl hs (cM hos cs I) cs.kind cs.locs
  (xy (hi pins s σ H _ I h) fun xv s1 h1=>xy h1 fun itv s2 h2=>?_)) (fun _ s' hq=>wpAny_pure (wpAny_pure hq)) fun _ _ e=>e)
 obtain⟨it,fp,tn,J,H2,rfl,I2,T,st2,f2,hW⟩:=h2
 refine rX (Qd:=fun x H1=>kY i x σ H1 D.nx) (RR:=fun acc C=>compPost (model X.prog X.w) X.A X.xe (some (assign (.Name y py) X.env)) (fun _ s'=>SP X pins D .next s') acc C) hc hos hN cs he I2 T st2 f2 hW fun D' C H5 s6 m I6 hn fC q=>?_
 show wpAny _ X.A (assign (.Name y py) X.env (.ref D')) _ _ _
 obtain⟨oC,es,ep,eC,dC,rC⟩:=id hn
 obtain⟨g0,g1,g2,g3,g4,g5⟩:=id fC
 have I6p:Inv X (pins ++ [(C,oC)]) σ H5 s6:=I6.m5 fun p hp=>(List.mem_append.mp hp).elim (fun z=>I6.pin p (List.mem_append_right _ z)) fun z=>by
  have e:p=(C,oC):=by simpa using z
  subst e
  exact⟨eC,g0,g1,g2,fun v z=>by rw[dC] at z;cases z⟩
 refine wpAny_assign_Name (fu I6p nd hi' (.inl hy) (v:=.ref D') rfl (fun s7 I7=>?_) (.inr hy))
 have e7:=(I7.pin (C,oC) (List.mem_append_right _ (List.mem_append_right _ (by simp)))).1
 refine⟨m,⟨oC,es,ep,e7,dC,rC⟩,fun h' sb=>?_⟩
 exact⟨_,H5,(I7.vo).turned (t':=s7.toks) (it:=C) (fun b o hb e=>sb.extBut b o hb e) g0 g1 g3 g4 g5,q⟩
end
noncomputable def nC (J:It) (H:Hp) (xs:List V):Prop:=∀(i:Nat) (H':Hp),qx H H'→
 (i < xs.length→J.go i H')∧(∀y H3,J.aD i H' y H3→H3=H'∧(i < xs.length→xs[i]?=some y))∧(i=xs.length→J.stop i H')
theorem xK {K:PySem.W.Frag} {a:Addr} {xs:List V} {H:Hp} (h:qC K H a xs):nC (aL K a) H xs:=fun i H' s=>
 ⟨fun hi=>⟨xs,xs[i],s.seq h,by simp [hi]⟩,fun y H3 q=>⟨q.1,fun _=>q.2 xs (s.seq h)⟩,fun e=>⟨xs,s.seq h,Nat.le_of_eq e.symm⟩⟩
theorem pz {lo:Int} {n:Nat} {H:Hp}:nC (iy lo n) H ((List.range n).map fun (i:Nat)=>V.int (lo + (i:Int))):=fun i H' s=>
 ⟨fun hi=>by show i < n;simpa using hi,fun y H3 q=>⟨q.1,fun hi=>by
  have hi':i < n:=by simpa using hi
  rw[q.2,List.getElem?_map,List.getElem?_range hi'];rfl⟩,fun e=>by
  have:i=n:=by simpa using e
  exact Nat.le_of_eq this.symm⟩
theorem vO {J:It} {H:Hp} {xs:List V} {qH:List Nat} {te:TE} {σ:St} {Q:VK} (hJ:nC J H xs) (Pr:Nat→V→V→Prop) (hsz:xs.length≤sizeLine)
  (hs:∀(i:Nat) (y:V) (H':Hp) (Q':VK),xs[i]?=some y→qx H H'→(∀v H4,qx H' H4→Pr i y v→Q' v H4)→te (some y :: vT σ qH) H' Q')
  (hd:∀(D:Addr) (H':Hp) (ys:List V),qx H H'→H D=none→H' D=some (.lst ys)→ys.length=xs.length→(∀(i:Nat) (y v:V),xs[i]?=some y→ys[i]?=some v→Pr i y v)→Q (.ref D) H') :
  tM J qH te σ Q H:=by
 intro D hD
 refine⟨fun i m H2=>m=xs.length - i∧i≤xs.length∧qx H H2∧∃ys,H2 D=some (.lst ys)∧ys.length=i∧∀(j:Nat) (y v:V),xs[j]?=some y→ys[j]?=some v→Pr j y v,
  ⟨xs.length,by simp,Nat.zero_le _,fun b o e=>by rw[qY (qb e hD)];exact e,[],qg,rfl,fun j y v _ e=>by simp at e⟩,?_⟩
 rintro i m H2 ⟨rfl,hi,s2,ys,hy,hl,hp⟩
 obtain⟨j1,j2,j3⟩:=hJ i H2 s2
 by_cases hlt:i < xs.length
 ·refine .inr ⟨j1 hlt,fun y H3 q=>?_⟩
  obtain⟨e3,ey⟩:=j2 y H3 q
  subst e3
  refine hs i y _ _ (ey hlt) s2 fun v H4 s4 pr=>⟨ys,s4 D _ hy,by omega,xs.length - (i + 1),by omega,rfl,hlt,fun b o e=>?_,ys ++ [v],qg,by simp [hl],fun j y' v' e1 e2=>?_⟩
  ·rw[qY (qb e hD)]
   exact s4 b o (s2 b o e)
  ·by_cases hj:j < ys.length
   ·rw[List.getElem?_append_left hj] at e2
    exact hp j y' v' e1 e2
   ·have hje:j=i:=by
     have:=(List.getElem?_eq_some_iff.mp e2).1
     simp at this;omega
    subst hje
    rw[List.getElem?_append_right (by omega),hl,Nat.sub_self] at e2
    rw[ey hlt] at e1
    cases e1
    have:v=v':=by simpa using e2
    subst this
    exact pr
 ·have e:i=xs.length:=by omega
  subst e
  exact .inl ⟨j3 rfl,hd D H2 ys s2 hD hy hl hp⟩
end L2
namespace L2
open PySem PySem.Spec PyProof.Rows
theorem qx.new {H H':Hp} {l:Addr} {o:HO} (e:qx H H') (hl:H' l=none):qx H (upd H' l o):=fun b u q=>by
 have q':=e b u q
 rw[qY (qb q' hl)]
 exact q'
theorem qx.put {H H':Hp} {l:Addr} {o:HO} (e:qx H H') (hl:H l=none):qx H (upd H' l o):=fun b u q=>by
 rw[qY (qb q hl)]
 exact e b u q
theorem qx.sT {H:Hp} {l:Addr} {o:HO} (hl:H l=none):qx H (upd H l o):=(qx.refl H).new hl
theorem aO {α:Type} {xs:List α} {m:Int} (n:Int) (hm:m=xs.length) (h:0 < xs.length):∃c,c∈xs∧f7 xs (n % m)=some c:=by
 subst hm
 have h0:0≤n % (xs.length:Int):=Int.emod_nonneg _ (by omega)
 have h1:n % (xs.length:Int) < xs.length:=Int.emod_lt_of_pos _ (by omega)
 have hj:(n % (xs.length:Int)).toNat < xs.length:=by omega
 refine⟨xs[(n % (xs.length:Int)).toNat],List.getElem_mem hj,?_⟩
 have e:=gN (xs:=xs) (j:=(n % (xs.length:Int)).toNat) (v:=xs[(n % (xs.length:Int)).toNat]) (by simp [hj])
 rw[Int.toNat_of_nonneg h0] at e
 exact e
theorem iE (sep:Str) (l:List Str):(Txt.join sep l).length≤(l.map (·.length)).sum + l.length * sep.length:=by
 have e:Txt.join sep l=Str.join sep l:=beq_iff_eq.mp (join_plain_closes sep l)
 rw[e]
 exact StrLaws.join_length_le sep l
theorem jr (a b:Str):(a ++ b).length=a.length + b.length:=by
 show (a.cps ++ b.cps).size=_
 rw[Array.size_append]
 rfl
noncomputable def QJ:List Expr→Bool
 | []=>true
 | .Constant (.str _) _ _ :: r=>QJ r
 | _=>false
noncomputable def Qv:List Expr→List V
 | []=>[]
 | .Constant (.str x) _ _ :: r=>V.str x :: Qv r
 | _=>[]
noncomputable def VL (es:List Expr):TA:=fun _ H Q=>Q (Qv es) H
theorem vw {es:List Expr} {p:Pos} {t:Option Expr} {l:Nat} {env:Env}:swapsWith (.List es p) t l env=pure false:=rfl
theorem qy {n:Nat} (h:n≤1000):n≤sizeLine:=Nat.le_of_lt (fO h)
end L2
namespace L2
open PySem PySem.Spec PyProof.Rows
section
variable {X:Cx} {CX:d9} {k:Nat} {f:Addr} {fd:FuncData} {ps:List Str} {sp:Sp} {dvs:List V} {ds:List Value} {E:XK} {m:Str} {pos apos:Pos} {e o:Expr} {es:List Expr} {ta:TE} {t:TA}
theorem PS.join {st:Stmt} {t:TS} (h:PS X st t):PS X st (fun D σ H=>∃M:St→Hp→Prop,t { D with nx:=M } σ H∧∀σ' H',M σ' H'→D.nx σ' H'):=by
 intro pins s σ H D I ⟨M,q,hM⟩
 refine xy (h pins s σ H _ I q) fun fl s' r=>?_
 cases fl with
 | next=>obtain⟨σ',H',I',r⟩:=r;exact⟨σ',H',I',hM _ _ r⟩
 | brk=>exact r
 | cont=>exact r
 | ret u=>exact r
theorem PE.cut {e:Expr} {t:TE} (h:PE X e t):PE X e (fun σ H Q=>∃M:VK,t σ H M∧∀v H',M v H'→Q v H'):=by
 intro pins s σ H Q I ⟨M,q,hM⟩
 exact xy (h pins s σ H _ I q) fun u s' ⟨v,H',I',r,z⟩=>⟨v,H',I',r,hM v H' z⟩
noncomputable def Vj (K:PySem.W.Frag) (f:Addr) (m:Str) (sp:Sp) (dvs:List V) (E:XK) (ta:TE) (t:TA):TE:=fun σ H Q=>ta σ H fun x H1=>∃a C dx fs,x=.ref a∧H1 a=some (.ins C dx fs)∧mY K C∧Meth K C m f∧fs.lookup m=none∧
 t σ H1 fun vs H2=>sp (x :: (vs ++ dvs)) H2 Q E
end
noncomputable def asc (x:Str):Prop:=∀c∈x.cps.toList,c < 128
theorem asc.ok {x:Str} (h:asc x):PyData.strOk x=true:=by
 unfold PyData.strOk
 rw[Array.all_eq_true]
 intro i hi
 have:=h x.cps[i] (by simp)
 exact decide_eq_true (by omega)
theorem cps_append (a b:Str):(a ++ b).cps.toList=a.cps.toList ++ b.cps.toList:=by
 show (a.cps ++ b.cps).toList=_
 simp
theorem join_eq (sep:Str) (l:List Str):Txt.join sep l=Str.join sep l:=beq_iff_eq.mp (join_plain_closes sep l)
theorem Zf {x:Str} {xs:List Str}:mX (.str x) (xs.map V.str)=decide (x∈xs):=by
 induction xs with
 | nil=>rfl
 | cons y r ih=>
  unfold mX at ih ⊢
  rw[List.map_cons,List.any_cons,ih]
  have:Zw (.str y) (.str x)=decide (x=y):=by
   show (y == x)=_
   by_cases h:x=y
   ·subst h;simp
   ·rw[decide_eq_false h];exact beq_eq_false_iff_ne.mpr fun q=>h q.symm
  rw[this]
  by_cases h:x=y<;>by_cases h':x∈r<;>simp [h,h']
end L2
namespace L2
open PySem PySem.Spec PyProof.Rows
noncomputable def Nw (H:Hp) (o:HO) (Q:VK):Prop:=∀p H',qx H H'→H p=none→H' p=some o→Q (.ref p) H'
theorem Nw.el {H:Hp} {o:HO} {Q:VK} (h:Nw H o Q) (p:Addr) (hp:H p=none):Q (.ref p) (upd H p o):=h p _ (qx.sT hp) hp qg
noncomputable def Keeps (l:Addr) (H H':Hp):Prop:=∀b,b≠l→H' b=H b
theorem Keeps.upd {H:Hp} {l:Addr} {o:HO}:Keeps l H (upd H l o):=fun _ h=>qY h
noncomputable def Ch (H:Hp) (l:Addr) (o:HO) (Q:Hp→Prop):Prop:=∀H',Keeps l H H'→H' l=some o→Q H'
theorem Ch.el {H:Hp} {l:Addr} {o:HO} {Q:Hp→Prop} (h:Ch H l o Q):Q (L2.upd H l o):=h _ Keeps.upd qg
theorem Keeps.put {H H1 H2:Hp} {l:Addr} (k:Keeps l H1 H2) (s:qx H H1) (n:H l=none):qx H H2:=fun b o e=>by
 rw[k b (qb e n)]
 exact s b o e
theorem Keeps.look {H1 H2:Hp} {l b:Addr} {o:HO} (k:Keeps l H1 H2) (e:H1 b=some o) (n:b≠l):H2 b=some o:=by rw[k b n];exact e
noncomputable def Fx (H H':Hp):Prop:=(∀b xs,H b=some (.tup xs)→H' b=some (.tup xs))∧∀b C dx fs,H b=some (.ins C dx fs)→H' b=some (.ins C dx fs)
section
variable {X:Cx}
theorem PE.mono {e:Expr} {t t':TE} (h:PE X e t) (m:∀σ H Q,t' σ H Q→t σ H Q):PE X e t':=fun pins s σ H Q I q=>h pins s σ H Q I (m σ H Q q)
theorem vR.mono {f:Value} {r r':List V→Hp→VK→Prop} (h:vR X f r) (m:∀xs H Q,r' xs H Q→r xs H Q):vR X f r':=fun pins s σ H xs us Q I rv q=>h pins s σ H xs us Q I rv (m xs H Q q)
theorem sg.mono {id:String} {r r':V→List V→Hp→VK→Prop} (h:sg X id r) (m:∀x xs H Q,r' x xs H Q→r x xs H Q):sg X id r':=fun pins s σ H x vs v us Q I rx rv q=>h pins s σ H x vs v us Q I rx rv (m x vs H Q q)
theorem bg.mono {f:Value→Value→Sem Value} {r r':R2} (h:bg X f r) (m:∀x y H Q,r' x y H Q→r x y H Q):bg X f r':=fun pins s σ H x y v u Q I rx ry q=>h pins s σ H x y v u Q I rx ry (m x y H Q q)
theorem Qm.mono {r r':V→Option Int→Option Int→Hp→VK→Prop} (h:Qm X r) (m:∀x l u H Q,r' x l u H Q→r x l u H Q):Qm X r':=fun pins s σ H x v vl vu lo hi sl Q I rx hs pl pu q=>h pins s σ H x v vl vu lo hi sl Q I rx hs pl pu (m x lo hi H Q q)
noncomputable def Kn (t:TA):TE:=fun σ H Q=>t σ H fun xs H1=>xs.length≤sizeLine∧Nw H1 (.tup xs) Q
noncomputable def Kt (t:TA):TE:=fun σ H Q=>t σ H fun xs H1=>xs.length≤sizeLine∧Nw H1 (.lst xs) Q
theorem PA.cut {es:List Expr} {t:TA} (h:PA X es t):PA X es (fun σ H Q=>∃M:List V→Hp→Prop,t σ H M∧∀vs H',M vs H'→Q vs H'):=by
 intro pos pins s σ H Q I ⟨M,q,hM⟩
 exact xy (h pos pins s σ H _ I q) fun u s' ⟨v,H',I',r,z⟩=>⟨v,H',I',r,hM v H' z⟩
theorem xk {es:List Expr} {t:TA} {pos:Pos} {x1} (h:PA X es t):PE X (.Tuple es x1 pos) (Kn t):=(Q0 h.cut).mono fun _ _ _ q=>⟨_,q,fun _ _ q=>⟨q.1,q.2.el⟩⟩
theorem qD {es:List Expr} {t:TA} {pos:Pos} (h:PA X es t):PE X (.List es pos) (Kt t):=(QI h.cut).mono fun _ _ _ q=>⟨_,q,fun _ _ q=>⟨q.1,q.2.el⟩⟩
theorem sL:vR X (.type "list") (fun xs H Q=>∃p ys,xs=[.ref p]∧(qC X.K H p ys∨kU X.K H p ys)∧Nw H (.lst ys) Q):=
 uh.mono fun _ _ _ ⟨p,ys,a,b,c⟩=>⟨p,ys,a,b,c.el⟩
theorem Ze:Qm X (fun x lo hi H Q=>∃a xs,x=.ref a∧qC X.K H a xs∧Nw H (.lst (wR xs lo hi)) Q):=
 ZF.mono fun _ _ _ _ _ ⟨a,xs,e,b,c⟩=>⟨a,xs,e,b,c.el⟩
theorem yR:bg X (binaryOp .Add) (fun x y H Q=>∃l b xs zs,x=.ref l∧y=.ref b∧H l=some (.lst xs)∧H b=some (.lst zs)∧xs.length + zs.length≤sizeLine∧Nw H (.lst (xs ++ zs)) Q):=
 QU.mono fun _ _ _ _ ⟨l,b,xs,zs,a,c,d,e,f,g⟩=>⟨l,b,xs,zs,a,c,d,e,f,g.el⟩
theorem j4:sg X "list.append" (fun x vs H Q=>∃l xs y,x=.ref l∧vs=[y]∧H l=some (.lst xs)∧xs.length < sizeLine∧Ch H l (.lst (xs ++ [y])) (Q .non)):=
 sg.mono fF fun _ _ _ _ ⟨l,xs,y,a,b,c,d,e⟩=>⟨l,xs,y,a,b,c,d,e.el⟩
theorem gG:sg X "list.clear" (fun x vs H Q=>∃l xs,x=.ref l∧vs=[]∧H l=some (.lst xs)∧Ch H l (.lst []) (Q .non)):=
 sg.mono i9 fun _ _ _ _ ⟨l,xs,a,b,c,e⟩=>⟨l,xs,a,b,c,e.el⟩
theorem QD:sg X "list.pop" (fun x vs H Q=>∃l xs y,x=.ref l∧vs=[]∧H l=some (.lst xs)∧xs[xs.length - 1]?=some y∧Ch H l (.lst xs.dropLast) (Q y)):=
 sg.mono QF fun _ _ _ _ ⟨l,xs,y,a,b,c,d,e⟩=>⟨l,xs,y,a,b,c,d,e.el⟩
theorem fM:sg X "list.extend" (fun x vs H Q=>∃l b xs zs,x=.ref l∧vs=[.ref b]∧H l=some (.lst xs)∧H b=some (.lst zs)∧xs.length + zs.length≤sizeLine∧Ch H l (.lst (xs ++ zs)) (Q .non)):=
 sg.mono oh fun _ _ _ _ ⟨l,b,xs,zs,a,a',c,d,e,f⟩=>⟨l,b,xs,zs,a,a',c,d,e,f.el⟩
theorem oo:Qf X (fun o i v H Q=>∃p xs k j,o=.ref p∧i=.int k∧H p=some (.lst xs)∧o9 xs.length k=some j∧Ch H p (.lst (xs.set j v)) Q):=by
 intro pins s σ H o i v
 have h:=@set_list X pins s σ H o i v
 intros
 rename_i q
 exact h _ _ _ _ ‹_› ‹_› ‹_› ‹_› (by obtain⟨p,xs,k,j,a,b,c,d,e⟩:=q;exact⟨p,xs,k,j,a,b,c,d,e.el⟩)
end
structure yt (P:Program) (w:World) (K:PySem.W.Frag) (mg:Str→Option Value) (base:Heap) (CX:d9) (k:Nat) (C:Addr) (m:Str) (sp:Sp):Prop where
 ex:∃f fd ps,Meth K C m f∧qJ P w K mg base CX k f fd ps sp∧Binds K fd ps []
theorem yt.mk' {P:Program} {w:World} {K:PySem.W.Frag} {mg:Str→Option Value} {base:Heap} {CX:d9} {j k:Nat} {C f:Addr} {m:Str} {sp:Sp} {fd:FuncData} {ps:List Str} (h1:Meth K C m f) (h2:qJ P w K mg base CX j f fd ps sp) (h3:Binds K fd ps []) (h:j≤k) :
  yt P w K mg base CX k C m sp:=⟨f,fd,ps,h1,h2.mono h,h3⟩
noncomputable def aK (X:Cx) (CX:d9) (k:Nat) (m:Str) (E:XK) (ta:TE) (t:TA):TE:=fun σ H Q=>ta σ H fun x H1=>∃a C dx fs,x=.ref a∧H1 a=some (.ins C dx fs)∧mY X.K C∧fs.lookup m=none∧
 ∃sp,yt X.prog X.w X.K X.mg X.base CX k C m sp∧t σ H1 fun vs H2=>sp (x :: vs) H2 Q E
section
variable {X:Cx} {k:Nat} {m:Str} {pos apos:Pos} {e o:Expr} {es:List Expr} {ta:TE} {t:TA}
theorem J8 {pl:Sem Bool} (hr:vy k X.A) (he:PE X o ta) (ha:PA X (e :: es) t)
  (hst:starEach (e :: es) X.env=(false,eval e X.env) :: starEach es X.env:=by rfl) (hpl:(backTo pos (starEach es X.env)).any (·.1)=false:=by rfl)
  (ht:eval (.Call (.Attribute o m apos) (e :: es) [] pos) X.env=(do
   let ov ←eval o X.env
   standAt apos.atName
   let (f,first) ←holding [ov] (getMethod ov m pl)
   callWith pos f first (backTo pos (starEach (e :: es) X.env)) (backToKw pos (keywordEach [] X.env))):=by rfl) :
  PE X (.Call (.Attribute o m apos) (e :: es) [] pos) (aK X jO k m E0 ta t):=by
 intro pins s σ H Q I h
 refine PySem.W.methodCall_KW (pl:=pl) (xy (he pins s σ H _ I h) fun u s1 ⟨x,H1,I1,rx,a,C,dx,fs,ex,ea,c,l,sp,M,q⟩=>?_) ht
 subst ex
 obtain⟨f,fd,ps,hm,F,hb⟩:=M.ex
 obtain rfl:u=Value.ref a:=rx
 refine bO I1 ea c hm l ?_
 refine PySem.W.callWith_K (first:=[.ref a]) (h₀:=X.base) I.ok.mod.Jd hm.kp (xy (ha pos pins s1 σ H1 _ I1 q) fun us s2 ⟨vs,H2,I2,r,q2⟩=>⟨I2.fe,?_⟩) hst hpl
 exact uM (us:=.ref a :: us) (vs:=.ref a :: vs) F hr hb .nil qW I2 (.cons rfl r) (by rw[List.append_nil];exact q2)
theorem yu {pl:Sem Bool} (hr:vy k X.A) (he:PE X o ta)
  (ht:eval (.Call (.Attribute o m apos) [] [] pos) X.env=(do
   let ov ←eval o X.env
   standAt apos.atName
   let (f,first) ←holding [ov] (getMethod ov m pl)
   callWith pos f first (backTo pos (starEach [] X.env)) (backToKw pos (keywordEach [] X.env))):=by rfl) :
  PE X (.Call (.Attribute o m apos) [] [] pos) (aK X jO k m E0 ta XX):=by
 intro pins s σ H Q I h
 refine PySem.W.methodCall_KW (pl:=pl) (xy (he pins s σ H _ I h) fun u s1 ⟨x,H1,I1,rx,a,C,dx,fs,ex,ea,c,l,sp,M,q⟩=>?_) ht
 subst ex
 obtain⟨f,fd,ps,hm,F,hb⟩:=M.ex
 obtain rfl:u=Value.ref a:=rx
 refine bO I1 ea c hm l ?_
 exact PySem.W.callWith_K0 (first:=[.ref a]) I1.fe hm.kp (uM (us:=[.ref a]) (vs:=[.ref a]) F hr hb .nil qW I1 (.cons rfl .nil) q)
end
theorem Qu {α:Type} [Inhabited α] {xs:List α} {i:Int} (h0:0≤i) (h1:i < xs.length):f7 xs i=some (xs.getD i.toNat default):=by
 have hj:i.toNat < xs.length:=by omega
 have e:=gN (xs:=xs) (j:=i.toNat) (v:=xs[i.toNat]) (by simp [hj])
 rw[Int.toNat_of_nonneg h0] at e
 rw[e,List.getD_eq_getElem?_getD,List.getElem?_eq_getElem hj]
 rfl
theorem tU {α:Type} {f:α→V} {xs:List α} {i:Int} (d:α) (h0:0≤i) (h1:i < xs.length):f7 (xs.map f) i=some (f (xs.getD i.toNat d)):=by
 have hj:i.toNat < (xs.map f).length:=by rw[List.length_map];omega
 have e:=gN (xs:=xs.map f) (j:=i.toNat) (v:=(xs.map f)[i.toNat]) (List.getElem?_eq_getElem hj)
 rw[Int.toNat_of_nonneg h0] at e
 rw[e,List.getElem_map,List.getD_eq_getElem?_getD,List.getElem?_eq_getElem (by omega)]
 rfl
theorem ip {xs:List Int} {i:Int} (h0:0≤i) (h1:i < xs.length):f7 (xs.map V.int) i=some (.int (xs.getD i.toNat 0)):=tU 0 h0 h1
theorem pZ {xs:List Str} {i:Int} (h0:0≤i) (h1:i < xs.length):f7 (xs.map V.str) i=some (.str (xs.getD i.toNat "")):=tU (f:=V.str) ("" : Str) h0 h1
theorem QX {n:Nat} {i:Int} (h0:0≤i) (h1:i < n):o9 n i=some i.toNat:=by
 unfold o9;rw[if_pos h0,if_pos h1]
theorem ic {z:Str} {i:Int} (h0:0≤i) (h1:i < z.length):f7 z.cps.toList i=some (z.cps.toList.getD i.toNat 0):=Qu h0 (by simpa [Str.length] using h1)
theorem vM {a b:Str} (h:a.cps.toList=b.cps.toList):a=b:=by
 cases a;cases b
 simp only at h
 rw[Array.toList_inj.mp h]
theorem kA (a b c:Str):a ++ b ++ c=a ++ (b ++ c):=vM (by simp only[cps_append,List.append_assoc])
theorem pF (s x y:Str) (r:List Str):Str.join s (x :: y :: r)=x ++ s ++ Str.join s (y :: r):=rfl
theorem join_one (s x:Str):Str.join s [x]=x:=rfl
end L2
namespace L2
open PySem PySem.Spec PyProof.Rows
theorem Ql {x y:Str} {n m:Nat} (hx:x.length≤n) (hy:y.length≤m) (h:n + m≤1000):x.length + y.length≤sizeLine:=qy (by omega)
theorem aE {x y:Str} {n m:Nat} (hx:x.length≤n) (hy:y.length≤m):(x ++ y).length≤n + m:=by rw[jr];omega
theorem i5 (x:Str):x.length≤x.length:=Nat.le_refl _
theorem ZZ {c:Nat}:(⟨#[c]⟩:Str).length≤1:=Nat.le_refl _
end L2
namespace L2
open PySem PySem.Spec PyProof.Rows
noncomputable def nD (K:PySem.W.Frag) (H:Hp) (x:V) (f:Str) (v:V):Prop:=∃a C dx fs,x=.ref a∧H a=some (.ins C dx fs)∧mY K C∧qK K C f∧fs.lookup f=some v
noncomputable def Ks (K:PySem.W.Frag) (ta:TE) (f:Str):TE:=fun σ H Q=>ta σ H fun x H1=>∃v,nD K H1 x f v∧Q v H1
theorem qP {X:Cx} {K:PySem.W.Frag} (hK:X.K=K) {e:Expr} {ta:TE} {f:Str} {pos:Pos} (he:PE X e ta) (hb:attributeBase e f X.env (eval e X.env)=eval e X.env):PE X (.Attribute e f pos) (Ks K ta f):=by
 subst hK
 refine(QO he.cut hb).mono fun σ H Q q=>⟨_,q,fun x H1 z=>?_⟩
 obtain⟨v,⟨a,C,dx,fs,h1,h2,h3,h4,h5⟩,q⟩:=z
 exact⟨a,C,dx,fs,v,h1,h2,h3,h4,h5,q⟩
theorem pR (K:PySem.W.Frag) (t:Value):PySem.W.kitOne K t t=some true:=by
 unfold PySem.W.kitOne
 rw[if_pos (by simp)]
end L2
namespace L2
open PySem PySem.Spec PyProof.Rows
structure WI (K:PySem.W.Frag) (C:Addr):Prop where
 makes:PySem.W.makesIn K C=true
 init:PySem.W.findIn K (.ref C) "__init__" = some (some (.builtin "object.__init__"))
 kp:PySem.W.keepIn K (.ref C)=true
section
variable {X:Cx} {C:Addr} {x:Str} {p pos:Pos}
end
end L2
namespace L2
open PySem PySem.Spec PyProof.Rows
theorem eu {n:Int} (h0:0≤n) (h1:n≤10 ^ 20):(Str.ofString (toString n)).length≤21∧1≤(Str.ofString (toString n)).length∧asc (Str.ofString (toString n)):=by
 obtain⟨m,rfl⟩:=Int.eq_ofNat_of_zero_le h0
 have e:=PySem.W.KIN.signs_num m
 have hl:(Str.ofString (toString ((m:Nat):Int))).length=(Nat.toDigits 10 m).length:=by
  have:=congrArg List.length e
  rw[List.length_map] at this
  rw[←this]
  simp [Str.length]
 refine⟨?_,?_,fun c hc=>?_⟩
 ·rw[hl]
  refine digits10_le (by decide) ?_
  have:(m:Int) < 10 ^ 21:=by omega
  exact_mod_cast this
 ·rw[hl];exact toDigits_len_ge 10 m
 ·rw[e] at hc
  obtain⟨ch,hch,rfl⟩:=List.mem_map.mp hc
  have r:=PyProof.Rows.digit_range (Nat.isDigit_of_mem_toDigits (by decide) (by decide) hch)
  omega
theorem cI {n:Int} (h0:0≤n) (h1:n≤10 ^ 20):n.natAbs.log2 < 1920:=by
 have:n.natAbs < 2 ^ 67:=by omega
 by_cases h:n.natAbs=0
 ·rw[h];decide
 ·exact Nat.lt_trans ((Nat.log2_lt h).mpr this) (by decide)
theorem gp (xs ys:List Str):PyData.eqv (.list (xs.map PyData.str)) (.list (ys.map PyData.str))=decide (xs=ys):=by
 simp only[PyData.eqv,gb]
end L2
namespace L2
open PySem PySem.Spec PyProof.Rows
theorem JE {H H':Hp} {b:Addr} {o:HO} (e:H b=some o) (s:qx H H'):H' b=some o:=s b o e
theorem KS {K:PySem.W.Frag} {H H':Hp} {a:Addr} {xs:List V} (h:qC K H a xs) (s:qx H H'):qC K H' a xs:=s.seq h
end L2
namespace L2
open PySem PySem.Spec PyProof.Rows
end L2
namespace L2
open PySem PySem.Spec PyProof.Rows
section
variable {X:Cx} {K:PySem.W.Frag}
theorem nQ {es:List Expr} {k:Nat} {t:ZI} {n:Nat} {pos:Pos} (hK:X.K=K) (hc:X.calm=true) (h:Jg X es t)
  (hn:(assignEach es X.env).length=n:=by rfl) (hst:(assignEach es X.env).findIdx? (·.1)=none:=by rfl):PG X (.Tuple es k pos) (JS K n t):=hK▸Q3 hc h hn hst
theorem qQ (hK:X.K=K):Jy X (Q6 K):=hK▸Zm
theorem qz (hK:X.K=K):Jy X (Q7 K):=hK▸QK
theorem yd (hK:X.K=K):Qm X (fun x lo hi H Q=>∃a xs,x=.ref a∧qC K H a xs∧Nw H (.lst (wR xs lo hi)) Q):=hK▸Ze
theorem ee (hK:X.K=K):bg X (compareOp .In) (X1 K false):=hK▸oQ
theorem oZ (hK:X.K=K):bg X (compareOp .NotIn) (X1 K true):=hK▸uW
theorem nZ (hK:X.K=K) (hu:X.A.units + 64 < cLine):bg X (compareOp .Eq) (ZY K false):=hK▸QR hu
theorem hV (hK:X.K=K) (hu:X.A.units + 64 < cLine):bg X (compareOp .NotEq) (ZY K true):=hK▸QL hu
theorem xI (hK:X.K=K):vR X (.builtin "len") (fun xs H Q=>∃p ys,xs=[.ref p]∧(qC K H p ys∨kU K H p ys)∧Q (.int ys.length) H):=hK▸ug
theorem ym (hK:X.K=K):vR X (.type "list") (fun xs H Q=>∃p ys,xs=[.ref p]∧(qC K H p ys∨kU K H p ys)∧Nw H (.lst ys) Q):=hK▸sL
theorem qL (hK:X.K=K):vR X (.builtin "isinstance") (fun xs H Q=>∃x c t b,xs=[x,c]∧((∃n,c=.ty n)∨∃a,c=.ref a)∧kx K H x t∧PySem.W.kitOne K t (rZ c)=some b∧Q (.bl b) H):=hK▸rz
theorem gZ (hK:X.K=K):sg X "str.join" (rJoin K):=hK▸Zs
theorem ji {tg l:Expr} {tl:TE} (hK:X.K=K) (hl:PE X l tl):PI X tg l (Z5 K tl):=hK▸ZK hl
end
end L2
namespace L2
open PySem PySem.Spec PyProof.Rows
structure vL (osc:Scope) (N:List Str) (sc:Scope) (xs names:List Str) (qH:List Nat):Prop where
 kind:sc.kind=.function
 dF:∀y∈sc.names,y.2≠.cell
 locs:∀y∈sc.names,y.2=.local→sc.names.lookup y.1=some .local
 frees:∀y∈sc.names,y.2=.free→osc.names.lookup y.1=some .cell
 own:∀x∈xs,sc.names.lookup x=some .local
 qH:names.map some=qH.map fun i=>N[i]?
 sX:∀y∈names,sc.names.lookup y=some .free
 nd:(xs ++ names).Nodup
noncomputable def jA (X:Cx) (sc:Scope) (xs names:List Str) (fp:List Addr) (s₀:Shared) (H₀:Hp):Cx where
 prog:=X.prog
 w:=X.w
 K:=X.K
 mg:=X.mg
 base:=X.base
 A:=X.A
 N:=xs ++ names
 s₀:=s₀
 H₀:=H₀
 env:=compEnvC sc (jk X.env sc.names []) s₀.heap.objs.size X.env
 outer:=X.stack
 stack:=X.stack
 ex:=fp
 fn:=fun _=>false
 calm:=X.calm
 pn:=[]
 xe:=fun _ _=>False
theorem rD {X:Cx} {sc:Scope} {xs names:List Str} {fp:List Addr} {s₀:Shared} {H₀:Hp} {x:Str} (h:sc.names.lookup x=some .local):(jA X sc xs names fp s₀ H₀).env.scope.names.lookup x=some .local:=lookup_relabel_local h
noncomputable def XN (X:Cx) (ifs:List Expr) (t:TT):Prop:=
 ∀(pins:List (Addr × Obj)) (s:Shared) (σ:St) (H:Hp) (Q:Bool→Hp→Prop),Inv X pins σ H s→t σ H Q→
  wpAny (model X.prog X.w) X.A (forIn ifs true fun c r=>if r=true then do let ok ←isTrue c X.env (eval c X.env);pure (ForInStep.yield ok) else pure (ForInStep.yield r)) (TP X pins σ Q) X.xe s
noncomputable def WL:TT:=fun _ H Q=>Q true H
theorem m7 {X:Cx} {c:Expr} {t:TT} (h:PT X c t):XN X [c] t:=fun pins s σ H Q I q=>wpAny_tests_one (h pins s σ H Q I q)
noncomputable def tF (J:It) (n:Nat) (qH:List Nat) (g:TG) (tt:TT) (te:TE) (σ:St) (Q:VK) (H1:Hp):Prop:=∀D,H1 D=none→∃W:Nat→Nat→St→Hp→Prop,(∃m,W 0 m (List.replicate n none ++ vT σ qH) (upd H1 D (.lst [])))∧∀i m σ1 H2,W i m σ1 H2→
 (J.stop i H2∧Q (.ref D) H2)∨(J.go i H2∧∀y H3,J.aD i H2 y H3→g y σ1 H3 fun σ2 H4=>tt σ2 H4 fun b H5=>if b=true then te σ2 H5 fun v H6=>∃ys,H6 D=some (.lst ys)∧ys.length < sizeLine∧∃m',m' < m∧W (i + 1) m' σ2 (upd H6 D (.lst (ys ++ [v])))
  else ∃m',m' < m∧W (i + 1) m' σ2 H5)
noncomputable def aX (n:Nat) (qH:List Nat) (wi:TI) (g:TG) (tt:TT) (te:TE):TE:=fun σ H Q=>wi σ H fun J H1=>tF J n qH g tt te σ Q H1
section
variable {prog:Program} {w:World} {A:Around} {R:Result→Shared→Prop} {s:Shared}
theorem um {el tg src : Expr} {ifs : List Expr} {scope : Scope} {pos : Pos} {it acc : Value} {env : Env} (I : Nat → Shared → Prop)
    (turn : ∀ n s, I n s → Noted prog w A env R (pyNext it) (fun r s1 => match r with
      | none => R (.ok .next) s1
      | some v => Noted prog w A env R (letOwnedTupleGo tg it v) (fun _ => Noted prog w A env R (assign tg env v) fun _ => Noted prog w A env R (forIn ifs true (testB env)) fun ok s4 =>
        if ok = true then Noted prog w A env R (eval el env) (fun x => Noted prog w A env R (call (.builtin "list.append") [acc, x]) fun _ s6 => ∃ m, m < n ∧ I m s6) s4 else ∃ m, m < n ∧ I m s4) s1) s) (n : Nat) (h : I n s) :
    codeAny (model prog w) A (.compLoop (.ListComp el [⟨tg, src, ifs, 0⟩] scope pos) 0 it acc env) R s := by
  refine codeAny_loop rfl I (fun k s1 hI => (?_ : wpAny _ _ (Sem.onRaise _ _) _ _ _)) n h
  refine wpAny_noted (compTurn_list .. ▸ wpAny_bind (wpAny_standAt (sq2 (turn k s1 hI) fun r s2 hr => ?_)))
  cases r
  · exact wpAny_pure hr
  · exact sq2 hr fun _ _ a => sq2 a fun _ _ b => sq2 b fun ok _ c => by
      cases ok
      · exact wpAny_pure ⟨rfl, c⟩
      · exact sq2 (sq2 c fun _ _ d => sq2 d fun _ _ e => wpAny_pure e) fun _ _ e => wpAny_pure ⟨rfl, e⟩
end
section
variable {X:Cx}
theorem Zq {pins:List (Addr × Obj)} {σ:St} {H:Hp} {s:Shared} {osc:Scope} {N:List Str} {sc:Scope} {xs names:List Str} {qH:List Nat} {fp:List Addr}
  (hos:X.env.scope=osc) (cs:vL osc N sc xs names qH) (I:Inv X pins σ H s) (hf:∀b∈fp,wD X pins H b) (hlt:∀b∈fp,b < s.heap.objs.size):(jA X sc xs names fp s H).Ok:=by
 subst hos
 have cl:=kn (env:=X.env) sc.names [] (fun z c e=>by simp at e)
 have hcl:∀y c,(jk X.env sc.names []).lookup y=some c→X.env.cells.lookup y=some c:=fun y c e=>by
  have e1:=cl.1 y c e
  have hm:(y,NameKind.free)∈sc.names:=by
   by_cases q:(y,NameKind.free)∈sc.names
   ·exact q
   ·have:=(cl.2 y).mpr ⟨rfl,q⟩
    rw[this] at e;cases e
  obtain⟨c',hc'⟩:=I.ok.has y (.inl (cs.frees _ hm rfl))
  rw[hc'] at e1 ⊢
  rw[e1];rfl
 refine⟨I.ok.mod,?_,I.ok.glob,I.ok.blt,Nat.le_refl _,fun y z c h1 h2=>I.ok.inj y z c (hcl y c h1) (hcl z c h2),fun y hy=>?_,fun y c h=>?_,I.ok.hd,I.ok.frames,.inl rfl,fun b hb=>⟨?_,fun y c h=>?_⟩,
  I.bs,Nat.le_trans I.ok.oA I.sz,fun b o e hb=>?_,fun b hb z=>?_,I.stack,I.uO⟩
 ·exact cs.kind
 ·have hy':(relabel sc X.env).names.lookup y=some .cell∨(relabel sc X.env).names.lookup y=some .free:=hy
  have key:sc.names.lookup y=some .free:=by
   rw[xC] at hy'
   cases q:sc.names.lookup y with
   | none=>rw[q] at hy';simp at hy'
   | some k=>
    rw[q] at hy'
    have hm:=PySem.mem_of_lookup q
    have hnc:=cs.dF _ hm
    by_cases hk:k=.free
    ·rw[hk]
    ·have e:(if (k == NameKind.free && X.env.scope.kind == .function && X.env.kindOf y == some .cell)=true then NameKind.cell else k)=k:=if_neg (by simp [hk])
     rw[Option.map_some,e] at hy'
     rcases hy' with z | z
     ·exact absurd (Option.some.inj z) hnc
     ·exact absurd (Option.some.inj z) hk
  have hm:=PySem.mem_of_lookup key
  cases q:(jk X.env sc.names []).lookup y with
  | some c=>exact⟨c,q⟩
  | none=>exact absurd hm ((cl.2 y).mp q).2
 ·exact absurd (show false=true from h) (by simp)
 ·exact Nat.ne_of_lt (hlt b hb)
 ·exact(hf b hb).2.2.2.2.1 y c (hcl y c h)
 ·rcases(hf b hb).2.2.2.1 with z | z
  ·exact I.ok.ot b o e z
  ·exact absurd (Nat.lt_of_lt_of_le (Heap.lt_size e) (Nat.le_trans I.ok.oA z)) (Nat.lt_irrefl _)
 ·rcases List.mem_cons.mp (I.uI b z) with q | q
  ·exact(hf b hb).2.1 q
  ·exact(hf b hb).2.2.1 q
theorem cD {pins:List (Addr × Obj)} {σ:St} {s₂:Shared} {osc:Scope} {N:List Str} {sc:Scope} {pos:Pos} {elt iter tg:Expr} {ifs:List Expr} {xs names:List Str} {qH:List Nat} {g:TG} {tt:TT} {te:TE} {E:Value→Shared→Prop}
  {RR:Value→Addr→Result→Shared→Prop} {H2:Hp} {it:Addr} {fp:List Addr} {tn:Nat→Heap→Prop} {J:It} {Qd:V→Hp→Prop}
  (hc:X.calm=true) (hos:X.env.scope=osc) (hN:X.N=N) (cs:vL osc N sc xs names qH) (hg:∀fp s₀ H₀,PG (jA X sc xs names fp s₀ H₀) tg g) (ht:∀fp s₀ H₀,XN (jA X sc xs names fp s₀ H₀) ifs tt) (he:∀fp s₀ H₀,PE (jA X sc xs names fp s₀ H₀) elt te)
  (I2:Inv X pins σ H2 s₂) (T:Turn X.prog X.w X.K tg J fp it tn) (st2:tn 0 s₂.heap) (f2:∀b∈fp,wD X pins H2 b)
  (hW:tF J xs.length qH g tt te σ Qd H2)
  (cont:∀D C H5 s6 m,Inv X pins σ H5 s6→s6.heap.Ns C m→wD X pins H5 C→Qd (.ref D) H5→RR (.ref D) C (.ok .next) s6) :
  wpAny (model X.prog X.w) X.A (newList []) (fun acc s₃=>wpAny (model X.prog X.w) X.A (newFunctionEnv sc X.env.globals (jk X.env sc.names []) [] X.env.qual none .none (some X.env)) (fun cenv s₄=>
   codeAny (model X.prog X.w) X.A (.compStart (.ListComp elt [⟨tg,iter,ifs,0⟩] sc pos) 0 (.ref it) acc { cenv with scope:=relabel sc X.env }) (RR acc cenv.locals) s₄) E s₃) E s₂:=by
 subst hN
 refine wpAny_newObj_type (wpAny_newFunctionEnv cs.dF (by intro y hy;simp at hy) (fun h₁ hns₁ hsb₁=>?_) cs.kind)
 dsimp only at hns₁ hsb₁ ⊢
 have fp2:∀b∈fp,b < s₂.heap.objs.size:=fun b hb=>by
  obtain⟨o,e,_⟩:=T.obj _ _ st2 b hb
  exact Heap.lt_size e
 have I3:Inv X pins σ (upd H2 s₂.heap.objs.size (.lst [])) { s₂ with heap:=s₂.heap.push { cls:=.type "list",dict:=none,data:=.seq ([]:List Value).toArray } }:=I2.Zr (t':=s₂.toks) (its:=[]) .nil (Nat.zero_le _)
 obtain⟨W,⟨m0,w0⟩,turn⟩:=hW s₂.heap.objs.size I2.fresh
 have f3:∀b∈fp,wD X pins (upd H2 s₂.heap.objs.size (.lst [])) b:=fun b hb=>⟨by rw[qY (Nat.ne_of_lt (fp2 b hb))];exact(f2 b hb).1,(f2 b hb).2⟩
 have hD:∀b o,s₂.heap.get? b=some o→(s₂.heap.push { cls:=.type "list",dict:=none,data:=.seq ([]:List Value).toArray }).get? b=some o:=fun b o e=>Heap.get?_push_of_some _ e
 generalize hs3:({ s₂ with heap:=s₂.heap.push { cls:=.type "list",dict:=none,data:=.seq ([]:List Value).toArray } }:Shared)=s₃ at *
 have hs3h:s₃.heap=s₂.heap.push { cls:=.type "list",dict:=none,data:=.seq ([]:List Value).toArray }:=by rw[←hs3]
 rw[←hs3h] at hns₁ hsb₁ hD ⊢
 have sv:∀b∈fp,b < s₃.heap.objs.size:=fun b hb=>by
  rw[hs3h,Heap.size_push];exact Nat.lt_succ_of_lt (fp2 b hb)
 have k3:∀b o,s₃.heap.get? b=some o→h₁.get? b=some o:=fun b o e=>hsb₁.extBut b o (Nat.ne_of_lt (Heap.lt_size e)) (Heap.get?_push_of_some _ e)
 have ok:=Zq hos cs I3 f3 sv
 have cl:=kn (env:=X.env) sc.names [] (fun z c e=>by simp at e)
 have hcl:∀y c,(jk X.env sc.names []).lookup y=some c→X.env.cells.lookup y=some c:=fun y c e=>by
  have e1:=cl.1 y c e
  have hm:(y,NameKind.free)∈sc.names:=by
   by_cases q:(y,NameKind.free)∈sc.names
   ·exact q
   ·have:=(cl.2 y).mpr ⟨rfl,q⟩
    rw[this] at e;cases e
  obtain⟨c',hc'⟩:=I3.ok.has y (.inl (by show X.env.scope.names.lookup y=_;rw[hos];exact cs.frees _ hm rfl))
  rw[hc'] at e1 ⊢
  rw[e1];rfl
 have cell4:∀y c,(jk X.env sc.names []).lookup y=some c→∀v,s₃.heap.IsCell c v→h₁.IsCell c v:=fun y c e v ⟨o,ho,hd⟩=>⟨o,k3 _ _ ho,hd⟩
 have lenC:qH.length=names.length:=by have:=congrArg List.length cs.qH;simpa using this.symm
 have I4:∀tk,Inv (jA X sc xs names fp s₃ (upd H2 s₂.heap.objs.size (.lst []))) [] (List.replicate xs.length none ++ vT σ qH) (upd H2 s₂.heap.objs.size (.lst [])) { s₃ with heap:=h₁,toks:=tk }:=fun tk=>by
  refine⟨ok,rfl,I3.bare,Un.kept k3,⟨_,hns₁,fun i y v e1 e2 e3=>?_⟩,fun y c e=>?_,I3.fresh,fun y c e=>I3.yA y c (hcl y c e),fun p hp=>absurd (show p∈([]:List (Addr × Obj)) from hp) (by simp),I3.jG.kept k3,?_⟩
  ·have hle:xs.length≤i:=by
    by_cases q:i < xs.length
    ·rw[List.getElem?_append_left (by rw[List.length_replicate];exact q),List.getElem?_replicate,if_pos q] at e2
     cases e2
    ·omega
   obtain⟨j,rfl⟩:∃j,i=xs.length + j:=⟨i - xs.length,by omega⟩
   ·have e1':names[j]?=some y:=by
     have e1z:(xs ++ names)[xs.length + j]?=some y:=e1
     rw[List.getElem?_append_right (Nat.le_add_right _ _),Nat.add_sub_cancel_left] at e1z
     exact e1z
    have e2':(vT σ qH)[j]?=some (some v):=by
     rw[List.getElem?_append_right (by rw[List.length_replicate];exact Nat.le_add_right _ _),List.length_replicate,Nat.add_sub_cancel_left] at e2
     exact e2
    unfold vT at e2'
    rw[List.getElem?_map] at e2'
    cases qc:qH[j]? with
    | none=>rw[qc] at e2';cases e2'
    | some i0=>
     rw[qc] at e2'
     have e2'':(σ[i0]?).join=some v:=by simpa using e2'
     have e3':σ[i0]?=some (some v):=by
      cases qs:σ[i0]? with
      | none=>rw[qs] at e2'';cases e2''
      | some o=>rw[qs] at e2'';rw[show o=some v from by simpa using e2'']
     have eN:X.N[i0]?=some y:=by
      have q1:(names.map some)[j]?=(qH.map fun i=>X.N[i]?)[j]?:=by rw[cs.qH]
      rw[List.getElem?_map,List.getElem?_map,e1',qc] at q1
      have q2:some y=X.N[i0]?:=by simpa using q1
      exact q2.symm
     have hfree:=cs.sX y (List.mem_of_getElem? e1')
     have hm:=PySem.mem_of_lookup hfree
     have hcell:X.env.scope.names.lookup y=some .cell:=by rw[hos];exact cs.frees _ hm rfl
     obtain⟨m,hn,hl⟩:=I3.loc
     obtain⟨u,ru,lk⟩:=hl i0 y v eN e3' (.inr (.inl hcell))
     refine⟨u,ru,?_⟩
     rcases lk with ⟨kk,_⟩ | ⟨kk,c,ec,hcl'⟩
     ·have kk':X.env.scope.names.lookup y=some .local:=kk
      rw[hcell] at kk';cases kk'
     ·refine .inr ⟨?_,c,?_,?_⟩
      ·left
       show (relabel sc X.env).names.lookup y=some .cell
       rw[xC,hfree]
       have ef:(X.env.scope.kind == ScopeKind.function)=true:=by rw[I3.ok.kind];rfl
       have ek:(X.env.kindOf y == some NameKind.cell)=true:=by
        show (X.env.scope.names.lookup y == some NameKind.cell)=true
        rw[hcell];rfl
       simp [ef,ek]
      ·show (jk X.env sc.names []).lookup y=some c
       cases q:(jk X.env sc.names []).lookup y with
       | none=>exact absurd hm ((cl.2 y).mp q).2
       | some c'=>
        have:=hcl y c' q
        rw[ec] at this
        exact this.symm
      ·obtain⟨o,ho,hd⟩:=hcl'
       exact⟨o,k3 _ _ ho,hd⟩
  ·obtain⟨v,hv⟩:=I3.cell y c (hcl y c e)
   exact⟨v,cell4 y c e v hv⟩
  ·show (List.replicate xs.length none ++ vT σ qH).length=(xs ++ names).length
   unfold vT
   simp [lenC]
 have st4:tn 0 h₁:=T.keep _ _ _ st2 fun b hb o e=>k3 b o (by rw[hs3h];exact Heap.get?_push_of_some _ e)
 have fpok:∀{H':Hp},(∀b∈fp,H' b=none)→∀b∈fp,wD (jA X sc xs names fp s₃ (upd H2 s₂.heap.objs.size (.lst []))) [] H' b:=fun hn b hb=>
  ⟨hn b hb,(ok.Jp b hb).1,ok.nN b hb,.inl hb,(ok.Jp b hb).2,fun p hp=>absurd (show p∈([]:List (Addr × Obj)) from hp) (by simp)⟩
 have loop:∀s₄:Shared,s₄={ s₃ with heap:=h₁,toks:=s₃.toks + ([]:List (Str × Value)).length }→
   codeAny (model X.prog X.w) X.A (.compLoop (.ListComp elt [⟨tg,iter,ifs,0⟩] sc pos) 0 (.ref it) (.ref s₂.heap.objs.size) (compEnvC sc (jk X.env sc.names []) s₃.heap.objs.size X.env))
    (RR (.ref s₂.heap.objs.size) s₃.heap.objs.size) s₄:=by
  rintro s₄ rfl
  refine um (fun n s'=>∃i σ' H',Inv (jA X sc xs names fp s₃ (upd H2 s₂.heap.objs.size (.lst []))) [] σ' H' s'∧tn i s'.heap∧(∀b∈fp,H' b=none)∧W i n σ' H') ?_ m0
   ⟨0,_,_,I4 _,st4,fun b hb=>(f3 b hb).1,w0⟩
  rintro n s5 ⟨i,σ5,H5,I5,st5,fr5,w5⟩
  rcases turn i n σ5 H5 w5 with ⟨stop,q⟩ | ⟨go,step⟩
  ·refine xy (T.done (jA X sc xs names fp s₃ (upd H2 s₂.heap.objs.size (.lst []))) rfl rfl rfl hc i [] s5 _ H5 _ I5 (fpok fr5) st5 stop) fun r s6 ⟨hr,I6⟩=>?_
   subst hr
   obtain⟨m,hn,_⟩:=I6.loc
   have J6:Inv X pins σ H5 s6:=I3.Z1 (ch:=fp) I6.os I6.base I6.jG I6.bare fun b hb=>⟨(f3 b hb).2.2.2.1,(f3 b hb).2.1,(f3 b hb).2.2.2.2.1,(f3 b hb).2.2.2.2.2⟩
   exact cont _ _ H5 s6 m J6 hn (I3.iR (H':=H5) (Nat.le_refl _) I6.free) q
  ·refine xy (T.item (jA X sc xs names fp s₃ (upd H2 s₂.heap.objs.size (.lst []))) rfl rfl rfl hc i [] s5 _ H5 _ I5 (fpok fr5) st5 go) fun r s6 ⟨u,hr,h6⟩=>?_
   subst hr
   refine xy h6 fun _ s6' ⟨y,H6,I6,r6,y6,st6,fr6⟩=>?_
   have I6':=I6.pinned (fpok fr6) (T.obj _ _ st6)
   have back:∀{σ':St} {H':Hp} {s':Shared},Inv (jA X sc xs names fp s₃ (upd H2 s₂.heap.objs.size (.lst []))) ([] ++ dO fp s6'.heap) σ' H' s'→tn (i + 1) s'.heap∧∀b∈fp,H' b=none:=fun I9=>
    ⟨T.keep _ _ _ st6 fun b hb o e=>(I9.pin (b,o) (List.mem_append_right _ (List.mem_append_right _ (kT hb e)))).1,fun b hb=>by
     obtain⟨o,e,d⟩:=T.obj _ _ st6 b hb
     exact(I9.pin (b,o) (List.mem_append_right _ (List.mem_append_right _ (kT hb e)))).2.1⟩
   refine wpAny_mono (hg fp s₃ _ _ s6' _ H6 y u _ I6' r6 (step y H6 y6)) (fun _ s7 ⟨σ7,H7,I7,q7⟩=>?_) fun _ _ z=>False.elim z
   refine wpAny_mono (ht fp s₃ _ _ s7 _ H7 _ I7 q7) (fun b s8 ⟨H8,I8,q8⟩=>?_) fun _ _ z=>False.elim z
   cases b with
   | false=>
    rw[if_neg Bool.false_ne_true] at q8 ⊢
    obtain⟨m',hm',w8⟩:=q8
    exact⟨m',hm',i + 1,σ7,H8,I8.vo,(back I8).1,(back I8).2,w8⟩
   | true=>
    rw[if_pos rfl] at q8 ⊢
    refine wpAny_mono (he fp s₃ _ _ s8 _ H8 _ I8 q8) (fun v s9 ⟨vv,H9,I9,r9,ys,hD9,hz9,m',hm',w9⟩=>?_) fun _ _ z=>False.elim z
    refine wpAny_mono (fF (X:=jA X sc xs names fp s₃ (upd H2 s₂.heap.objs.size (.lst []))) _ s9 _ H9 (.ref s₂.heap.objs.size) [vv] (.ref s₂.heap.objs.size) [v] (fun _ H'=>H'=upd H9 s₂.heap.objs.size (.lst (ys ++ [vv]))) I9 rfl (.cons r9 .nil)
     ⟨_,ys,vv,rfl,rfl,hD9,hz9,rfl⟩) (fun _ s10 ⟨_,H10,I10,_,e10⟩=>?_) fun _ _ z=>False.elim z
    subst e10
    exact⟨m',hm',i + 1,σ7,_,I10.vo,(back I10).1,(back I10).2,w9⟩
 exact codeAny_compStart_list (loop _ (by rw[←hs3])) (T.self _ 0 _ _ _ st4 (loop _ (by rw[←hs3])))
theorem dv {pins:List (Addr × Obj)} {σ:St} {H:Hp} {s:Shared} {osc:Scope} {N:List Str} {sc:Scope} {xs names:List Str} {qH:List Nat} (hos:X.env.scope=osc) (cs:vL osc N sc xs names qH) (I:Inv X pins σ H s) :
  closureFor sc X.env=pure (jk X.env sc.names []):=
 bb fun y hy hk=>I.ok.has y.1 (.inl (by show X.env.scope.names.lookup y.1=_;rw[hos];exact cs.frees y hy hk))
theorem oJ {osc:Scope} {N:List Str} {sc:Scope} {pos:Pos} {elt iter tg:Expr} {ifs:List Expr} {g:TG} {tt:TT} {xs names:List Str} {qH:List Nat} {wi:TI} {te:TE}
  (hc:X.calm=true) (hos:X.env.scope=osc) (hN:X.N=N) (cs:vL osc N sc xs names qH) (hi:PI X tg iter wi) (hg:∀fp s₀ H₀,PG (jA X sc xs names fp s₀ H₀) tg g) (ht:∀fp s₀ H₀,XN (jA X sc xs names fp s₀ H₀) ifs tt) (he:∀fp s₀ H₀,PE (jA X sc xs names fp s₀ H₀) elt te)
  (hs:∀v,foldedSetIterable iter X.env v=pure v:=by intro _;rfl):PE X (.ListComp elt [⟨tg,iter,ifs,0⟩] sc pos) (aX xs.length qH wi g tt te):=by
 intro pins s σ H Q I h
 rw[eval_ListComp]
 refine wpAny_comprehension_free (use:=none) rfl hs (dv hos cs I) cs.kind cs.locs (xy (hi pins s σ H _ I h) fun xv s1 h1=>xy h1 fun itv s2 h2=>?_)
 obtain⟨it,fp,tn,J,H2,rfl,I2,T,st2,f2,hW⟩:=h2
 refine cD (Qd:=Q) (RR:=fun acc C=>compPost (model X.prog X.w) X.A X.xe none (EP X pins σ Q) acc C) hc hos hN cs hg ht he I2 T st2 f2 hW fun D C H5 s6 m I6 hn fC q=>?_
 refine⟨m,hn,fun h' sb=>?_⟩
 obtain⟨g0,g1,g2,g3,g4,g5⟩:=fC
 exact⟨.ref D,H5,I6.turned (t':=s6.toks) (it:=C) (fun b o hb e=>sb.extBut b o hb e) g0 g1 g3 g4 g5,rfl,q⟩
theorem wA {osc:Scope} {N:List Str} {sc:Scope} {y:Str} {py pos spos:Pos} {elt iter tg:Expr} {ifs:List Expr} {g:TG} {tt:TT} {xs names:List Str} {qH:List Nat} {wi:TI} {te:TE} {i:Nat}
  (hc:X.calm=true) (hos:X.env.scope=osc) (hN:X.N=N) (nd:X.N.Nodup) (cs:vL osc N sc xs names qH) (hi':X.N[i]?=some y) (hy:X.env.scope.names.lookup y=some .local) (hi:PI X tg iter wi)
  (hg:∀fp s₀ H₀,PG (jA X sc xs names fp s₀ H₀) tg g) (ht:∀fp s₀ H₀,XN (jA X sc xs names fp s₀ H₀) ifs tt) (he:∀fp s₀ H₀,PE (jA X sc xs names fp s₀ H₀) elt te) (hsw:swapsWith (.ListComp elt [⟨tg,iter,ifs,0⟩] sc pos) (some (.Name y py)) spos.line X.env=pure true:=by rfl)
  (hs:∀v,foldedSetIterable iter X.env v=pure v:=by intro _;rfl):PS X (.Assign [.Name y py] (.ListComp elt [⟨tg,iter,ifs,0⟩] sc pos) spos) (ZU (aX xs.length qH wi g tt te) (kY i)):=by
 intro pins s σ H D I h
 rw[exec_Assign_Name_used _ _ _ _ hsw]
 refine wpAny_bind (wpAny_standAt (wpAny_bind ?_))
 show wpAny _ X.A (do let _ ←comprehension (.ListComp elt [⟨tg,iter,ifs,0⟩] sc pos) sc X.env _ (newList []) false (eval iter X.env) (some (assign (.Name y py) X.env))) _ _ s
 refine wpAny_bind (wpAny_mono (wpAny_comprehension_free (use:=some (assign (.Name y py) X.env)) (Q:=fun _ s'=>SP X pins D .next s') rfl hs (dv hos cs I) cs.kind cs.locs
  (xy (hi pins s σ H _ I h) fun xv s1 h1=>xy h1 fun itv s2 h2=>?_)) (fun _ s' hq=>wpAny_pure (wpAny_pure hq)) fun _ _ e=>e)
 obtain⟨it,fp,tn,J,H2,rfl,I2,T,st2,f2,hW⟩:=h2
 refine cD (Qd:=fun x H1=>kY i x σ H1 D.nx) (RR:=fun acc C=>compPost (model X.prog X.w) X.A X.xe (some (assign (.Name y py) X.env)) (fun _ s'=>SP X pins D .next s') acc C) hc hos hN cs hg ht he I2 T st2 f2 hW fun D' C H5 s6 m I6 hn fC q=>?_
 show wpAny _ X.A (assign (.Name y py) X.env (.ref D')) _ _ _
 obtain⟨oC,es,ep,eC,dC,rC⟩:=id hn
 obtain⟨g0,g1,g2,g3,g4,g5⟩:=id fC
 have I6p:Inv X (pins ++ [(C,oC)]) σ H5 s6:=I6.m5 fun p hp=>(List.mem_append.mp hp).elim (fun z=>I6.pin p (List.mem_append_right _ z)) fun z=>by
  have e:p=(C,oC):=by simpa using z
  subst e
  exact⟨eC,g0,g1,g2,fun v z=>by rw[dC] at z;cases z⟩
 refine wpAny_assign_Name (fu I6p nd hi' (.inl hy) (v:=.ref D') rfl (fun s7 I7=>?_) (.inr hy))
 have e7:=(I7.pin (C,oC) (List.mem_append_right _ (List.mem_append_right _ (by simp)))).1
 refine⟨m,⟨oC,es,ep,e7,dC,rC⟩,fun h' sb=>?_⟩
 exact⟨_,H5,(I7.vo).turned (t':=s7.toks) (it:=C) (fun b o hb e=>sb.extBut b o hb e) g0 g1 g3 g4 g5,q⟩
end
theorem iJ {J:It} {H:Hp} {xs:List V} {n:Nat} {qH:List Nat} {g:TG} {tt:TT} {te:TE} {σ:St} {Q:VK} (hJ:nC J H xs) (tv:V→List (Option V)) (hn:∀y,(tv y).length=n) (p:V→Bool) (Pr:V→V→Prop) (hsz:xs.length≤sizeLine)
  (hg:∀(i:Nat) (y:V) (ts:List (Option V)) (H':Hp) (K':St→Hp→Prop),xs[i]?=some y→ts.length=n→qx H H'→K' (tv y ++ vT σ qH) H'→g y (ts ++ vT σ qH) H' K')
  (ht:∀(i:Nat) (y:V) (H':Hp) (Q':Bool→Hp→Prop),xs[i]?=some y→qx H H'→(∀H4,qx H' H4→Q' (p y) H4)→tt (tv y ++ vT σ qH) H' Q')
  (he:∀(i:Nat) (y:V) (H':Hp) (Q':VK),xs[i]?=some y→p y=true→qx H H'→(∀v H4,qx H' H4→Pr y v→Q' v H4)→te (tv y ++ vT σ qH) H' Q')
  (hd:∀(D:Addr) (H':Hp) (ys:List V),qx H H'→H D=none→H' D=some (.lst ys)→Paired Pr (xs.filter p) ys→Q (.ref D) H') :
  tF J n qH g tt te σ Q H:=by
 intro D hD
 refine⟨fun i m σ1 H2=>m=xs.length - i∧i≤xs.length∧(∃ts:List (Option V),ts.length=n∧σ1=ts ++ vT σ qH)∧qx H H2∧∃ys,H2 D=some (.lst ys)∧Paired Pr ((xs.take i).filter p) ys,
  ⟨xs.length,by simp,Nat.zero_le _,⟨_,List.length_replicate,rfl⟩,qx.sT hD,[],qg,by simpa using Paired.nil⟩,?_⟩
 rintro i m σ1 H2 ⟨rfl,hi,⟨ts,htl,rfl⟩,s2,ys,hy,hp⟩
 obtain⟨j1,j2,j3⟩:=hJ i H2 s2
 by_cases hlt:i < xs.length
 ·refine .inr ⟨j1 hlt,fun y H3 q=>?_⟩
  obtain⟨e3,ey⟩:=j2 y H3 q
  subst e3
  have hyi:=ey hlt
  have htake:xs.take (i + 1)=xs.take i ++ [y]:=by
   rw[List.take_add_one,hyi];rfl
  have hlen:ys.length≤i:=by
   rw[←hp.length]
   exact Nat.le_trans (List.length_filter_le _ _) (by rw[List.length_take];omega)
  refine hg i y ts _ _ hyi htl s2 ?_
  refine ht i y _ _ hyi s2 fun H5 s5=>?_
  cases hpy:p y with
  | false=>
   rw[if_neg Bool.false_ne_true]
   refine⟨xs.length - (i + 1),by omega,rfl,hlt,⟨tv y,hn y,rfl⟩,s2.trans s5,ys,s5 _ _ hy,?_⟩
   rw[htake,List.filter_append,show [y].filter p=[] by simp [hpy],List.append_nil]
   exact hp
  | true=>
   rw[if_pos rfl]
   refine he i y _ _ hyi hpy (s2.trans s5) fun v H6 s6 pr=>⟨ys,s6 _ _ (s5 _ _ hy),by omega,xs.length - (i + 1),by omega,rfl,hlt,⟨tv y,hn y,rfl⟩,((s2.trans s5).trans s6).put hD,ys ++ [v],qg,?_⟩
   rw[htake,List.filter_append,show [y].filter p=[y] by simp [hpy]]
   exact hp.snoc pr
 ·have e:i=xs.length:=by omega
  subst e
  refine .inl ⟨j3 rfl,hd D H2 ys s2 hD hy ?_⟩
  rw[List.take_length] at hp
  exact hp
theorem mP {J:It} {H:Hp} {xs:List V} {qH:List Nat} {tt:TT} {te:TE} {σ:St} {Q:VK} (hJ:nC J H xs) (p:V→Bool) (Pr:V→V→Prop) (hsz:xs.length≤sizeLine)
  (ht:∀(i:Nat) (y:V) (H':Hp) (Q':Bool→Hp→Prop),xs[i]?=some y→qx H H'→(∀H4,qx H' H4→Q' (p y) H4)→tt (some y :: vT σ qH) H' Q')
  (he:∀(i:Nat) (y:V) (H':Hp) (Q':VK),xs[i]?=some y→p y=true→qx H H'→(∀v H4,qx H' H4→Pr y v→Q' v H4)→te (some y :: vT σ qH) H' Q')
  (hd:∀(D:Addr) (H':Hp) (ys:List V),qx H H'→H D=none→H' D=some (.lst ys)→Paired Pr (xs.filter p) ys→Q (.ref D) H') :
  tF J 1 qH (kY 0) tt te σ Q H:=
 iJ hJ (fun y=>[some y]) (fun _=>rfl) p Pr hsz (fun i y ts H' K' _ htl _ q=>by
  match ts,htl with
  | [_],_=>exact q) ht he hd
end L2
namespace L2
open PySem PySem.Spec PyProof.Rows
section
variable {X:Cx} {pins:List (Addr × Obj)} {σ:St} {H:Hp} {s:Shared} {h':Heap}
theorem Inv.Wy {ch:List Addr} {a:Addr} {o:HO} {t':Nat} (I:Inv X pins σ H s) (hf:∀b∈ch,wD X pins H b) (k:∀b u,b∉ch→s.heap.get? b=some u→h'.get? b=some u)
  (hp:s.heap.objs.size≤a) (new:kr X.prog X.w (upd H a o) h' a o):Inv X pins σ (upd H a o) { s with heap:=h',toks:=t' }:=by
 have hn:=I.jG.fresh hp
 have nit:∀b u,H b=some u→b∉ch:=fun b u e z=>by rw[(hf b z).1] at e;cases e
 have ne:∀b u,s.heap.get? b=some u→b≠a:=fun b u e z=>absurd (Nat.lt_of_lt_of_le (Heap.lt_size (z▸e)) hp) (Nat.lt_irrefl _)
 refine I.step (g':=s.gens) (d':=s.drawn) (ch:=ch) (fun b hb=>?_) (fun b o _ _ hc e _=>k b o hc e) (fun b o _ _ hc e _=>⟨o.slots,k b o hc e⟩) (fun b o hc e n=>?_) (fun b o hc e=>⟨o,k b o hc e⟩) (fun b xs e=>?_) (fun b o u e=>?_) (fun b ps e=>⟨#[],?_⟩) (fun m hm=>?_) (fun b u e=>?_) I.bare
 ·obtain⟨_,f1,_,f3,f4,f5⟩:=hf b hb
  exact⟨f3,f1,f4,f5⟩
 ·rw[qY (ne b o e)];exact n
 ·rw[qY (qb e hn)];exact e
 ·rw[qY (qb e hn)];exact e
 ·rw[qY (qb e hn),e];simp
 ·obtain⟨o,es,ep,ho,r⟩:=hm
  exact⟨o,es,ep,k _ o (fun z=>(hf _ z).2.1 rfl) ho,r⟩
 ·by_cases hb:b=a
  ·subst hb;rw[qg] at e;cases e;exact new
  ·rw[qY hb] at e
   refine(I.jG b u e).cJ (fun c v hc q=>k c v ?_ q) (fun c q=>by rw[qY (qb q hn)];exact q) fun c xs q=>by rw[qY (qb q hn)];exact q
   rcases hc with z | z
   ·rw[z];exact nit b u e
   ·exact nit c _ z
theorem Inv.Kp {ch:List Addr} {t':Nat} (I:Inv X pins σ H s) (hf:∀b∈ch,wD X pins H b) (k:∀b u,b∉ch→s.heap.get? b=some u→h'.get? b=some u):Inv X pins σ H { s with heap:=h',toks:=t' }:=by
 have nit:∀b u,H b=some u→b∉ch:=fun b u e z=>by rw[(hf b z).1] at e;cases e
 refine I.step (g':=s.gens) (d':=s.drawn) (ch:=ch) (fun b hb=>?_) (fun b o _ _ hc e _=>k b o hc e) (fun b o _ _ hc e _=>⟨o.slots,k b o hc e⟩) (fun b o hc e n=>n) (fun b o hc e=>⟨o,k b o hc e⟩) (fun b xs e=>e) (fun b o u e=>e) (fun b ps e=>⟨#[],by rw[e];simp⟩) (fun m hm=>?_) (fun b u e=>?_) I.bare
 ·obtain⟨_,f1,_,f3,f4,f5⟩:=hf b hb
  exact⟨f3,f1,f4,f5⟩
 ·obtain⟨o,es,ep,ho,r⟩:=hm
  exact⟨o,es,ep,k _ o (fun z=>(hf _ z).2.1 rfl) ho,r⟩
 ·refine(I.jG b u e).cJ (fun c v hc q=>k c v ?_ q) (fun c q=>q) fun c xs q=>q
  rcases hc with z | z
  ·rw[z];exact nit b u e
  ·exact nit c _ z
end
noncomputable def Jn (K:PySem.W.Frag) (a b:Addr):It:=
 ⟨fun i H=>∃xs ys x y,qC K H a xs∧qC K H b ys∧xs[i]?=some x∧ys[i]?=some y,
  fun i H v H'=>∃t x y,H t=none∧v=.ref t∧H'=upd H t (.tup [x,y])∧(∀xs,qC K H a xs→xs[i]?=some x)∧∀ys,qC K H b ys→ys[i]?=some y,
  fun i H=>∃xs ys,qC K H a xs∧qC K H b ys∧(xs.length≤i∨ys.length≤i)⟩
noncomputable def JJ (z TI TO i1 i2 l1 l2:Addr) (i:Nat) (h:Heap):Prop:=
 IsZip h z TI TO .none∧IsPair h TI (.ref i1) (.ref i2)∧(∃a b,IsPair h TO a b)∧h.IsListIter i1 l1 i∧h.IsListIter i2 l2 i
theorem aW {P:Program} {w:World} {K:PySem.W.Frag} {es:List Expr} {k1:Nat} {pos:Pos} {z TI TO i1 i2 l1 l2:Addr} (D:ZipApart z TI TO i1 i2 l1 l2) :
  Turn P w K (.Tuple es k1 pos) (Jn K l1 l2) [z,TI,TO,i1,i2] z (JJ z TI TO i1 i2 l1 l2) where
 mem:=by simp
 obj:=fun i h st b hb=>by
  obtain⟨a1,a2,⟨x,y,a3⟩,⟨o4,e4,_,d4⟩,o5,e5,_,d5⟩:=st
  simp only[List.mem_cons,List.not_mem_nil,or_false] at hb
  rcases hb with rfl | rfl | rfl | rfl | rfl
  ·exact⟨_,a1,fun v q=>by cases q⟩
  ·exact⟨_,a2,fun v q=>by cases q⟩
  ·exact⟨_,a3,fun v q=>by cases q⟩
  ·exact⟨_,e4,fun v q=>by rw[d4] at q;cases q⟩
  ·exact⟨_,e5,fun v q=>by rw[d5] at q;cases q⟩
 keep:=fun i h h' st k=>by
  obtain⟨a1,a2,⟨x,y,a3⟩,a4,a5⟩:=st
  exact⟨k z (by simp) _ a1,k TI (by simp) _ a2,⟨x,y,k TO (by simp) _ a3⟩,a4.at fun o e=>k i1 (by simp) o e,a5.at fun o e=>k i2 (by simp) o e⟩
 item:=by
  intro X hP hw hK hc i pins s σ H E I hf st hg
  subst hP hw hK
  obtain⟨xs,ys,x,y,hq1,hq2,hx,hy⟩:=hg
  obtain⟨its1,rv1,p1,_⟩:=I.list hq1
  obtain⟨its2,rv2,p2,_⟩:=I.list hq2
  obtain⟨u1,hu1,ru1⟩:=rv1.get hx
  obtain⟨u2,hu2,ru2⟩:=rv2.get hy
  obtain⟨a1,a2,⟨a,b,a3⟩,a4,a5⟩:=st
  refine wpAny_pyNext_zip_item D a1 a2 a3 a4 a5 p1.isList p2.isList (x:=u1) (y:=u2) (by simpa using hu1) (by simpa using hu2) fun h' b1 b2 b3 b4 b5 b6 bk=>?_
  refine⟨_,rfl,wpAny_letOwnedTupleGo_zip b1 fun h2 c1 c2=>?_⟩
  have lt:∀{c o},s.heap.get? c=some o→s.heap.objs.size≠c:=fun e=>Nat.ne_of_gt (Heap.lt_size e)
  have keepA:∀c o,c∉[z,TI,TO,i1,i2]→s.heap.get? c=some o→h2.get? c=some o:=fun c o hc e=>by
   simp only[List.mem_cons,List.not_mem_nil,or_false,not_or] at hc
   exact c2.extBut _ _ hc.1 (bk c o hc.1 hc.2.2.1 hc.2.2.2.1 hc.2.2.2.2 e)
  have T2:IsPair h2 s.heap.objs.size u1 u2:=c2.extBut _ _ (lt a1) b5
  refine⟨.ref s.heap.objs.size,upd H s.heap.objs.size (.tup [x,y]),I.Wy (t':=s.toks) hf keepA (Nat.le_refl _) ?_,rfl,⟨_,x,y,I.fresh,rfl,rfl,fun zs hz=>by rw[I.dJ hz hq1];exact hx,fun zs hz=>by rw[I.dJ hz hq2];exact hy⟩,?_,fun b hb=>?_⟩
  ·exact⟨by show 2≤sizeLine;decide,[u1,u2],.cons ru1 (.cons ru2 .nil),_,T2,rfl,0,rfl⟩
  ·exact⟨c1,c2.extBut _ _ D.TIz (bk TI _ D.TIz D.TITO D.TIi1 D.TIi2 a2),⟨_,_,c2.extBut _ _ D.TOz b2⟩,b3.extBut c2.extBut D.i1z,b4.extBut c2.extBut D.i2z⟩
  ·have hb':∃o,s.heap.get? b=some o:=by
    obtain⟨o4,e4,_⟩:=a4
    obtain⟨o5,e5,_⟩:=a5
    simp only[List.mem_cons,List.not_mem_nil,or_false] at hb
    rcases hb with rfl | rfl | rfl | rfl | rfl
    ·exact⟨_,a1⟩
    ·exact⟨_,a2⟩
    ·exact⟨_,a3⟩
    ·exact⟨_,e4⟩
    ·exact⟨_,e5⟩
   obtain⟨o,e⟩:=hb'
   rw[qY (Ne.symm (lt e))]
   exact(hf b hb).1
 done:=by
  intro X hP hw hK hc i pins s σ H E I hf st hg
  subst hP hw hK
  obtain⟨xs,ys,hq1,hq2,he⟩:=hg
  obtain⟨its1,rv1,p1,_⟩:=I.list hq1
  obtain⟨its2,rv2,p2,_⟩:=I.list hq2
  have l1':=rv1.length
  have l2':=rv2.length
  obtain⟨a1,a2,⟨a,b,a3⟩,a4,a5⟩:=st
  refine wpAny_pyNext_zip_end (I.ok.hd hc) D a1 a2 a3 a4 a5 p1.isList p2.isList ?_ fun h' bk=>⟨rfl,I.Kp (t':=s.toks) hf fun c o hc e=>?_⟩
  ·rcases he with he | he
   ·exact .inl (by simp;omega)
   ·exact .inr (by simp;omega)
  ·simp only[List.mem_cons,List.not_mem_nil,or_false,not_or] at hc
   exact bk c o hc.1 hc.2.2.1 hc.2.2.2.1 hc.2.2.2.2 e
 self:=fun _ _ _ _ _ st h=>wpAny_pyIter_zip st.1 h
noncomputable def JN (K:PySem.W.Frag) (ta:TA):TI:=fun σ H R=>ta σ H fun vs H1=>∃a b xs ys,vs=[.ref a,.ref b]∧qC K H1 a xs∧qC K H1 b ys∧R (Jn K a b) H1
section
variable {X:Cx}
theorem Q4 {es:List Expr} {k1:Nat} {tpos:Pos} {a b:Expr} {ta:TA} {p pos:Pos} (hg:Gl X "zip") (hm:X.mg "zip" = none) (ha:PA X [a,b] ta) (hv:bootBuiltins "zip" = some (.type "zip"))
  (he:starEach [a,b] X.env=(false,eval a X.env) :: starEach [b] X.env:=by rfl) (hpl:(backTo pos (starEach [b] X.env)).any (·.1)=false:=by rfl) :
  PI X (.Tuple es k1 tpos) (.Call (.Name "zip" p) [a,b] [] pos) (JN X.K ta):=by
 intro pins s σ H R I h
 refine wpAny_Call_Name_kw (fP I hg hm hv ?_)
 refine PyProof.Rows.callWith_type1 (xy (ha pos pins s σ H _ I h) fun us s1 ⟨vs,H1,I1,r1,q1⟩=>?_) he hpl
 obtain⟨l1,l2,xs,ys,rfl,hq1,hq2,q⟩:=q1
 obtain⟨its1,rv1,p1,_⟩:=I1.list hq1
 obtain⟨its2,rv2,p2,_⟩:=I1.list hq2
 cases r1 with
 | cons r rr=>
  cases rr with
  | cons r' rr=>
   cases rr
   cases r
   cases r'
   have b1:l1 < s1.heap.objs.size:=by obtain⟨_,_,e,_⟩:=p1;exact Heap.lt_size e
   have b2:l2 < s1.heap.objs.size:=by obtain⟨_,_,e,_⟩:=p2;exact Heap.lt_size e
   refine call_zip_2 p1.isList p2.isList fun h' c1 c2 c3 c4 c5 c6 ck=>?_
   refine wpAny_pyIter_zip (s:={ s1 with heap:=h' }) c1 ?_
   refine⟨_,_,_,_,H1,rfl,I1.kept (t':=s1.toks) ck,aW (zipApart_new b1 b2),⟨c1,c2,⟨_,_,c3⟩,c4,c5⟩,fun c hc=>?_,q⟩
   have:s1.heap.objs.size≤c:=by
    simp only[List.mem_cons,List.not_mem_nil,or_false] at hc
    rcases hc with rfl | rfl | rfl | rfl | rfl<;>omega
   exact I1.iR this (I1.jG.fresh this)
noncomputable def KU:V→List V→Hp→VK→Prop:=fun x vs H Q=>∃z y,x=.str z∧vs=[.str y]∧(y.length == 0)=false∧z.length + 2≤sizeLine∧Nw H (.lst ((Txt.split z y).map V.str)) Q
theorem ZX {K:PySem.W.Frag} {es:List Expr} {k1:Nat} {tpos:Pos} {a b:Expr} {ta:TA} {p pos:Pos} (hK:X.K=K) (hg:Gl X "zip") (hm:X.mg "zip" = none) (ha:PA X [a,b] ta) (hv:bootBuiltins "zip" = some (.type "zip"))
  (he:starEach [a,b] X.env=(false,eval a X.env) :: starEach [b] X.env:=by rfl) (hpl:(backTo pos (starEach [b] X.env)).any (·.1)=false:=by rfl) :
  PI X (.Tuple es k1 tpos) (.Call (.Name "zip" p) [a,b] [] pos) (JN K ta):=hK▸Q4 hg hm ha hv he hpl
end
end L2
namespace L2
open PyProof.Rows PySem PySem.Spec
noncomputable def XI (h:Heap) (e C:Addr) (d:Option Addr) (tb:Value):Prop:=∃vs sl,h.get? e=some ⟨.ref C,d,.fields vs,sl⟩∧vs.size=6∧vs[1]?=some tb∧vs[2]?=some .none
noncomputable def V8 (h:Heap) (T:Addr) (fl:Value):Prop:=∃oT ts,h.get? T=some oT∧oT.data=.fields ts∧ts[3]?=some fl
structure W2 (fs ch:List Addr) (h h':Heap):Prop where
 keep:∀b o,h.get? b=some o→b∉fs→b∉ch→h'.get? b=some o
 slot:∀b o,h.get? b=some o→b∈fs→b∉ch→∃sl,h'.get? b=some { o with slots:=sl }
 there:∀b o,h.get? b=some o→∃o',h'.get? b=some o'
section
variable {M:Model} {A:Around} {E:Value→Shared→Prop} {s:Shared} {base:Heap} {env:Env} {outer:List Env} {L e C:Addr} {d:Option Addr}
end
end L2
namespace L2
open PyProof.Rows PySem PySem.Spec
noncomputable def xO (e C:Addr) (d:Option Addr):HO:=.ext fun h=>∃tb,XI h e C d tb
structure Vm (a C:Addr) (d:Option Addr) (n:Nat) (H:Hp) (h:Heap) (T:Addr):Prop where
 at':XI h a C d (.ref T)
 tr:V8 h T .none
 ne:T≠a
 new:n≤T
 free:H T=none
 is:H a=some (xO a C d)
noncomputable def WO (P:Program) (w:World):d9:=fun outer H s E e s'=>∃(a C:Addr) (d:Option Addr) (T:Addr) (H':Hp),e=.ref a∧s'.os=s.os∧AllBare s'.gens∧Un (o8 outer) [] H H' s.heap s'.heap∧mZ P w H' s'.heap∧Vm a C d s.heap.objs.size H' s'.heap T∧E (.ref C) (some a) H'
end L2
namespace L2
open PyProof.Rows PySem PySem.Spec
section
variable {X:Cx} {pins:List (Addr × Obj)} {σ:St} {H:Hp} {s:Shared} {a C:Addr} {d:Option Addr} {E:XK}
end
end L2
namespace L2
open PyProof.Rows PySem PySem.Spec
section
variable {P:Program} {w:World} {K:PySem.W.Frag} {mg:Str→Option Value} {base:Heap}
end
end L2
namespace L2
open PyProof.Rows PySem PySem.Spec
noncomputable def m8:List Value→Bool
 | .ref _ :: r=>m8 r
 | l=>l == [.type "ValueError",.type "Exception",.type "BaseException",.type "object"]
structure Wq (K:PySem.W.Frag) (C:Addr):Prop where
 mro:(PySem.W.clsIn K C).any (fun cd=>m8 cd.mro && cd.hasDict)=true
 sa:PySem.W.findIn K (.ref C) "__setattr__" = some (some (.builtin "object.__setattr__"))
section
variable {prog:Program} {w:World} {A:Around} {K:PySem.W.Frag} {C x:Addr} {s:Shared} {R:Result→Shared→Prop}
end
end L2
namespace L2
open PyProof.Rows PySem PySem.Spec
section
end
end L2
namespace L2
open PyProof.Rows PySem PySem.Spec
noncomputable def xN (e C:Addr) (d:Option Addr):HO:=.ext fun h=>XI h e C d .none
noncomputable def xD (dx:Addr) (fs:List (Str × V)):HO:=.ext fun h=>∃mA,h.Ns1 dx mA∧(∀f,dj (fs.lookup f) (mA f))∧PySem.Within mA (fs.map (·.1))
section
variable {X:Cx} {pins:List (Addr × Obj)} {σ:St} {H:Hp} {s:Shared} {a C dx:Addr} {f:Str} {y:V} {u:Value} {o value:Expr} {ta tv:TE} {pos pos':Pos}
noncomputable def Yq (K:PySem.W.Frag) (ta tv:TE) (f:Str):TS:=fun D σ H=>tv σ H fun y H1=>ta σ H1 fun x H2=>∃a C,x=.ref a∧Wq K C∧qK K C f∧
 ((H2 a=some (xN a C none)∧∀dx,H2 dx=none→dx≠a→D.nx σ (upd (upd H2 dx (xD dx [(f,y)])) a (xN a C (some dx))))∨
  (∃dx fs,H2 a=some (xN a C (some dx))∧H2 dx=some (xD dx fs)∧fs.length≤900∧D.nx σ (upd H2 dx (xD dx (qR f y fs)))))
noncomputable def aM (K:PySem.W.Frag) (C:Addr):Bool:=match K.lookup C with
 | some ⟨c,_,.cls cd,sl⟩=>c == .type "type" && cd.mro.head? == some (.ref C) && m8 cd.mro && !cd.hasDel && sl.size == 6 && sl[4]? == some (some (.builtin "ValueError.__new__"))
 | _=>false
noncomputable def Yh (C:Addr) (o:Obj):Bool:=match o with
 | ⟨c,_,.cls cd,sl⟩=>c == .type "type" && cd.mro.head? == some (.ref C) && m8 cd.mro && !cd.hasDel && sl.size == 6 && sl[4]? == some (some (.builtin "ValueError.__new__")) && cd.hasDict
 | _=>false
structure W3 (K:PySem.W.Frag) (C f:Addr):Prop where
 xc:aM K C=true
 init:PySem.W.findIn K (.ref C) "__init__" = some (some (.ref f))
 fn:PySem.W.isFn K (.ref f)=true
 kp:PySem.W.keepIn K (.ref C)=true
section
variable {CX:d9} {k:Nat} {fI:Addr} {fd:FuncData} {ps:List Str} {sp:Sp} {dvs vs:List V} {ds us:List Value} {E:XK} {Q:VK} {x:Str} {p:Pos} {e:Expr} {es:List Expr} {t:TA}
noncomputable def Vq (C:Addr) (sp:Sp) (dvs:List V) (E:XK) (t:TA):TE:=fun σ H Q=>t σ H fun vs H1=>vs.length≤sizeLine∧∀a,H1 a=none→sp (.ref a :: (vs ++ dvs)) (upd H1 a (xN a C none)) (fun v H2=>v=.non∧Q (.ref a) H2) E
structure Wj (K:PySem.W.Frag) (C:Addr):Prop where
 xc:aM K C=true
 init:PySem.W.findIn K (.ref C) "__init__" = some (some (.builtin "ValueError.__init__"))
 kp:PySem.W.keepIn K (.ref C)=true
noncomputable def X7 (C:Addr):TE:=fun _ H Q=>∀a,H a=none→Q (.ref a) (upd H a (xN a C none))
end
end
end L2
namespace L2
open PyProof.Rows PySem PySem.Spec
section
variable {X:Cx} {pins:List (Addr × Obj)} {σ:St} {H:Hp} {s:Shared} {a C:Addr} {d:Option Addr} {e:Expr} {te:TE} {pos:Pos} {E:XK}
noncomputable def Raises (X:Cx) (E:XK):Prop:=∀(pins:List (Addr × Obj)) (σ:St) (H:Hp) (s:Shared) (a C:Addr) (d:Option Addr),Inv X pins σ H s→H a=some (xO a C d)→XI s.heap a C d .none→E (.ref C) (some a) H→X.xe (.ref a) s
noncomputable def Vv (K:PySem.W.Frag) (E:XK) (te:TE):TS:=fun _ σ H=>te σ H fun v H1=>∃a C d,v=.ref a∧aM K C=true∧H1 a=some (xN a C d)∧E (.ref C) (some a) (upd H1 a (xO a C d))
end
end L2
namespace L2
open PyProof.Rows PySem PySem.Spec
section
variable {X:Cx} {pins:List (Addr × Obj)} {σ:St} {H:Hp} {s:Shared} {a C:Addr} {d:Option Addr} {E Eh:XK}
noncomputable def Jt (X:Cx) (pins:List (Addr × Obj)) (σ:St) (Eh:XK) (ex:Value) (s':Shared):Prop:=∃a C d T H',ex=.ref a∧Inv X pins σ H' s'∧Vm a C d X.s₀.heap.objs.size H' s'.heap T∧(∀p∈X.pn ++ pins,p.1≠T)∧Eh (.ref C) (some a) H'
noncomputable def V5 (X:Cx) (Eh:XK) (e:Expr) (te:TE):Prop:=∀(pins:List (Addr × Obj)) (s:Shared) (σ:St) (H:Hp) (Q:VK),Inv X pins σ H s→te σ H Q→wpAny (model X.prog X.w) X.A (eval e X.env) (EP X pins σ Q) (Jt X pins σ Eh) s
section
variable {k:Nat} {f:Addr} {fd:FuncData} {ps:List Str} {sp:Sp} {dvs:List V} {ds:List Value} {x:Str} {p pos:Pos} {e:Expr} {es:List Expr} {t:TA}
end
noncomputable def Cx.held (X:Cx) (a:Addr):Cx:={ X with A:=X.A.mark (some (.ref a)),calm:=false }
noncomputable def VS (K:PySem.W.Frag) (Eh:XK) (P:Addr) (i:Nat) (te:TE) (th:Addr→TS):TS:=fun D σ H=>(te σ H fun _ H1=>D.nx σ H1)∧∀C a H',Eh (.ref C) (some a) H'→PySem.W.exmOne K (.ref C) (.ref P)=some true∧
 th a { nx:=fun σ H=>D.nx (σ.set i none) H,rt:=D.rt,bk:=fun σ H=>D.bk (σ.set i none) H,ct:=fun σ H=>D.ct (σ.set i none) H } (σ.set i (some (.ref a))) H'
end
end L2
namespace L2
open PyProof.Rows PySem PySem.Spec
noncomputable def Wx (H:Hp) (a C:Addr) (fs:List (Str × V)):Prop:=(fs=[]∧H a=some (xO a C none))∨∃dx,H a=some (xO a C (some dx))∧H dx=some (xD dx fs)
section
variable {prog:Program} {w:World} {A:Around} {E:Value→Shared→Prop} {s:Shared} {K:PySem.W.Frag} {x C:Addr} {ox:Obj} {od:Option Obj} {name:Str} {tk:Tok} {v:Value} {R:Result→Shared→Prop}
end
structure Wv (K:PySem.W.Frag) (C:Addr):Prop where
 ga:PySem.W.findIn K (.ref C) "__getattribute__" = some (some (.builtin "BaseException.__getattribute__"))
 gn:PySem.W.findIn K (.ref C) "__getattr__" = some none
 bx:PySem.W.mroIn K C (.type "BaseException")=some true
 hd:PySem.W.hasDictIn K C=true
 ha:PySem.W.findIn K (.ref C) "__class__" = some (some (.builtin "object.__class__"))
 hn:PySem.W.specialIn K (.builtin "object.__class__") "__get__" = some (some (.builtin "getset_descriptor.__get__"))
 fY:PySem.W.takesIn K (.builtin "object.__class__")=some true
 hm:PySem.W.mroIn K C (.type "object")=some true
section
variable {X:Cx} {K:PySem.W.Frag}
noncomputable def VT (K:PySem.W.Frag) (ta:TE) (f:Str):TE:=fun σ H Q=>ta σ H fun x H1=>∃a C fs v,x=.ref a∧Wx H1 a C fs∧Wv K C∧qK K C f∧fs.lookup f=some v∧Q v H1
end
end L2
namespace L2
open PyProof.Rows PySem PySem.Spec
structure Ja (k:Nat) (A:Around):Prop where
 dp:A.depth + 3 * k + 5 < recursionLimit
 un:A.units + 16 * k + 200 < cLine
structure Vd (P:Program) (w:World) (K:PySem.W.Frag) (mg:Str→Option Value) (base:Heap) (CX:d9) (k:Nat) (f:Addr) (fd:FuncData) (ps:List Str) (sp:Sp):Prop where
 len:∀vs H Q E,sp vs H Q E→vs.length=ps.length
 run:∀(A:Around) (outer:List Env) (s:Shared) (H:Hp) (args:Args) (us:List Value) (vs:List V) (Q:VK) (E:XK),Ja k A→u7 P w K mg base A outer s H→BindsTo s fd args (ps.zip us)→Vals vs us→sp vs H Q E→codeAny (model P w) A (.call (.ref f) args) (CR CX outer P w H s Q E) s
section
variable {P:Program} {w:World} {K:PySem.W.Frag} {mg:Str→Option Value} {base:Heap} {CX:d9}
noncomputable def Cx.any (X:Cx):Cx:={ X with calm:=false,xe:=fun _ _=>False }
section
variable {X:Cx} {pins:List (Addr × Obj)} {σ:St} {H:Hp} {s:Shared} {k:Nat} {f:Addr} {fd:FuncData} {ps:List Str} {sp:Sp} {dvs:List V} {ds:List Value} {x:Str} {p pos:Pos} {e:Expr} {es:List Expr} {t:TA}
end
end
end L2
namespace L2
open PyProof.Rows PySem PySem.Spec
section
variable {prog:Program} {w:World} {A:Around} {E:Value→Shared→Prop} {s:Shared} {a e C:Addr} {d:Option Addr} {tb:Value} {oe:Obj} {vs:Array Value}
end
end L2
namespace L2
open PyProof.Rows PySem PySem.Spec
structure JZ (aa:Addr) (P:Program) (w:World) (K:PySem.W.Frag) (tg:Expr) (J:It) (fp:List Addr) (it:Addr) (tn:Nat→Heap→Prop):Prop where
 mem:it∈fp
 obj:∀i h,tn i h→∀b∈fp,∃o,h.get? b=some o∧∀v,o.data≠.cell v
 keep:∀i h h',tn i h→(∀b∈fp,∀o,h.get? b=some o→h'.get? b=some o)→tn i h'
 item:∀(X:Cx),X.prog=P→X.w=w→X.K=K→X.A.handled=some (.ref aa)→∀(i:Nat) (pins:List (Addr × Obj)) (s:Shared) (σ:St) (H:Hp) (E:Value→Shared→Prop),Inv X pins σ H s→(∀b∈fp,wD X pins H b)→tn i s.heap→J.go i H→
  wpAny (model P w) X.A (pyNext (.ref it)) (fun r s1=>∃u,r=some u∧wpAny (model P w) X.A (letOwnedTupleGo tg (.ref it) u) (fun _ s2=>∃x H',Inv X pins σ H' s2∧RelV x u∧J.aD i H x H'∧tn (i + 1) s2.heap∧∀b∈fp,H' b=none) E s1) E s
 done:∀(X:Cx),X.prog=P→X.w=w→X.K=K→X.A.handled=some (.ref aa)→∀(i:Nat) (pins:List (Addr × Obj)) (s:Shared) (σ:St) (H:Hp) (E:Value→Shared→Prop),Inv X pins σ H s→(∀b∈fp,wD X pins H b)→tn i s.heap→J.stop i H→wpAny (model P w) X.A (pyNext (.ref it)) (fun r s1=>r=none∧Inv X pins σ H s1) E s
 self:∀(A:Around) (i:Nat) (s:Shared) (Q:Value→Shared→Prop) (E:Value→Shared→Prop),tn i s.heap→Q (.ref it) s→wpAny (model P w) A (pyIter (.ref it)) Q E s
noncomputable def Kx (aa:Addr) (lo:Int) (n:Nat):It:=⟨fun i _=>i < n,fun i H x H'=>H'=H∧x=.int (lo + i),fun i H=>n≤i∧∃C d,H aa=some (xO aa C d)⟩
section
variable {X:Cx}
noncomputable def V7 (X:Cx) (aa:Addr) (tg iter:Expr) (wi:TI):Prop:=∀(pins:List (Addr × Obj)) (s:Shared) (σ:St) (H:Hp) (R:It→Hp→Prop),Inv X pins σ H s→wi σ H R→
 wpAny (model X.prog X.w) X.A (eval iter X.env) (fun v s1=>wpAny (model X.prog X.w) X.A (pyIter v) (fun itv s2=>∃(it:Addr) (fp:List Addr) (tn:Nat→Heap→Prop) (J:It) (H':Hp),itv=.ref it∧Inv X pins σ H' s2∧JZ aa X.prog X.w X.K tg J fp it tn∧tn 0 s2.heap∧(∀b∈fp,wD X pins H' b)∧R J H') X.xe s1) X.xe s
noncomputable def Kd (aa:Addr) (ta:TA):TI:=fun σ H R=>ta σ H fun vs H1=>∃j:Int,vs=[.int j]∧-(2 ^ 62)≤j∧j < 2 ^ 62∧R (Kx aa 0 j.toNat) H1
end
end L2
namespace L2
open PySem PySem.Spec PyProof.Rows
section
variable {κ:Type} [DecidableEq κ]
noncomputable def oN (kvs:List (κ × V)) (k:κ):Option V:=(kvs.find? fun kv=>decide (kv.1=k)).map (·.2)
noncomputable def putK (kvs:List (κ × V)) (k:κ) (v:V):List (κ × V):=
 if (kvs.any fun kv=>decide (kv.1=k))=true then kvs.map (fun kv=>if kv.1=k then (kv.1,v) else kv) else kvs ++ [(k,v)]
noncomputable def iH (kvs:List (κ × V)) (k:κ):List (κ × V):=kvs.filter fun kv=>decide (kv.1≠k)
end
noncomputable abbrev KT (H:Hp):List (List Key × V)→List (List Key × Addr × Value)→Prop:=Paired fun p q=>p.1=q.1∧H q.2.1=some (.tup (p.1.map kV))∧RelV p.2 q.2.2
section
variable {P:Program} {w:World} {H:Hp} {h:Heap} {a:Addr}
end
noncomputable def nF (H:Hp) (a:Addr) (y:V) (r:Option V):Prop:=
 (∃kvs k,Rd H a (.dK kvs)∧y=kV k∧r=oN kvs k)∨∃kvs k b,Rd H a (.dT kvs)∧y=.ref b∧H b=some (.tup (k.map kV))∧r=oN kvs k
noncomputable def Jl (H:Hp) (a:Addr) (y v:V) (H':Hp):Prop:=
 (∃kvs k,H a=some (.dK kvs)∧y=kV k∧kvs.length < sizeLine∧H'=upd H a (.dK (putK kvs k v)))∨
 ∃kvs k b,H a=some (.dT kvs)∧y=.ref b∧H b=some (.tup (k.map kV))∧kvs.length < sizeLine∧H'=upd H a (.dT (putK kvs k v))
section
variable {X:Cx} {pins:List (Addr × Obj)} {σ:St} {H:Hp} {s:Shared} {a:Addr} {y v:V} {u r:Value} {o:Option V} {A:Around} {E:Value→Shared→Prop}
end
section
variable {X:Cx} {pins:List (Addr × Obj)} {σ:St} {H:Hp} {s:Shared} {a:Addr} {kvs:List (Key × V)} {k:Key} {u:Value} {A:Around} {E:Value→Shared→Prop}
end
noncomputable def V4 (i:Expr):Prop:=∀ov iv,subscripted i false ov iv=operate [ov,iv] (getItem ov iv)
noncomputable def VM (td ty:TE):TE:=fun σ H Q=>td σ H fun x H1=>ty σ H1 fun y H2=>∃a v,x=.ref a∧nF H2 a y (some v)∧Q v H2
noncomputable def WK (ty td:TE):TE:=fun σ H Q=>ty σ H fun y H1=>td σ H1 fun x H2=>∃a o,x=.ref a∧nF H2 a y o∧Q (.bl o.isSome) H2
noncomputable def X6 (ty td:TE):TE:=fun σ H Q=>ty σ H fun y H1=>td σ H1 fun x H2=>∃a o,x=.ref a∧nF H2 a y o∧Q (.bl (!o.isSome)) H2
noncomputable def VH (td ty tv:TE):TS:=fun D σ H=>tv σ H fun v H1=>td σ H1 fun x H2=>ty σ H2 fun y H3=>∃a H4,x=.ref a∧Jl H3 a y v H4∧D.nx σ H4
noncomputable def VY (td ty tv:TE) (rd:V→V→Hp→VK→Prop):TS:=fun D σ H=>td σ H fun x H1=>ty σ H1 fun y H2=>∃a v,x=.ref a∧nF H2 a y (some v)∧
 tv σ H2 fun y2 H3=>rd v y2 H3 fun z H4=>∃H5,Jl H4 a y z H5∧D.nx σ H5
noncomputable def VG (td ty:TE):TS:=fun D σ H=>td σ H fun x H1=>ty σ H1 fun y H2=>∃a kvs k,x=.ref a∧H2 a=some (.dK kvs)∧y=kV k∧(oN kvs k).isSome=true∧D.nx σ (upd H2 a (.dK (iH kvs k)))
section
variable {X:Cx} {o i e value:Expr} {pos pos' tpos:Pos} {td ty tv:TE}
end
noncomputable def K3:TE:=fun _ H Q=>∀p,H p=none→Q (.ref p) (upd H p (.dK []))
noncomputable def K4:TE:=fun _ H Q=>∀p,H p=none→Q (.ref p) (upd H p (.dT []))
section
variable {X:Cx} {pos:Pos}
end
noncomputable def tV:List (TE × TE)→St→Hp→(List (V × V)→Hp→Prop)→Prop
 | [],_,H,Q=>Q [] H
 | (tk,tv) :: r,σ,H,Q=>tk σ H fun x H1=>tv σ H1 fun y H2=>tV r σ H2 fun ps H3=>Q ((x,y) :: ps) H3
noncomputable abbrev VV:List (V × V)→List (Value × Value)→Prop:=Paired fun p q=>RelV p.1 q.1∧RelV p.2 q.2
noncomputable def WA (X:Cx) (pos:Pos) (keys:List (Option Expr)) (values:List Expr) (trs:List (TE × TE)):Prop:=
 ∀(pins:List (Addr × Obj)) (s:Shared) (σ:St) (H:Hp) (Q:List (V × V)→Hp→Prop),Inv X pins σ H s→tV trs σ H Q→
  wpAny (model X.prog X.w) X.A (evalPairs (pairTrees keys values X.env pos)) (fun vs s'=>∃ps H',Inv X pins σ H' s'∧VV ps vs∧Q ps H') X.xe s
noncomputable def QP (kvs more:List (Key × V)):List (Key × V):=more.foldl (fun acc kv=>putK acc kv.1 kv.2) kvs
noncomputable def VD (trs:List (TE × TE)):TE:=fun σ H Q=>∀p,H p=none→tV trs σ (upd H p (.dK [])) fun ps H2=>H2 p=some (.dK [])∧∃kvs:List (Key × V),ps=kvs.map (fun kv=>(kV kv.1,kv.2))∧kvs.length≤15∧Q (.ref p) (upd H2 p (.dK (QP [] kvs)))
structure M1 (X:Cx) (o:Expr) (m:Str) (apos:Pos) (e:Expr) (cpos:Pos):Prop where
 base:attributeBase o m X.env (eval o X.env)=eval o X.env
 Wg:((backTo cpos (starEach [e] X.env)).all (fun x=>!x.1) && (backToKw cpos (keywordEach [] X.env)).all (fun x=>x.1.isSome)
  && decide (([e]:List Expr).length + ([]:List Keyword).length + (if ([]:List Keyword).isEmpty then 0 else 1) < 30))=true
 line:(apos.endLine == cpos.line)=true
 trees:backTo cpos (starEach [e] X.env)=[(false,eval e X.env)]
structure M2 (X:Cx) (o:Expr) (m:Str) (apos:Pos) (e f:Expr) (cpos:Pos):Prop where
 base:attributeBase o m X.env (eval o X.env)=eval o X.env
 Wg:((backTo cpos (starEach [e,f] X.env)).all (fun x=>!x.1) && (backToKw cpos (keywordEach [] X.env)).all (fun x=>x.1.isSome)
  && decide (([e,f]:List Expr).length + ([]:List Keyword).length + (if ([]:List Keyword).isEmpty then 0 else 1) < 30))=true
 line:(apos.endLine == cpos.line)=true
 trees:backTo cpos (starEach [e,f] X.env)=[(false,eval e X.env),(false,eval f X.env)]
noncomputable def XR (H:Hp) (a:Addr):Prop:=(∃kvs,Rd H a (.dK kvs))∨∃kvs,Rd H a (.dT kvs)
section
variable {X:Cx} {pins:List (Addr × Obj)} {σ:St} {H:Hp} {s:Shared} {a:Addr} {y d:V} {u r:Value} {o:Option V} {A:Around} {E:Value→Shared→Prop}
end
noncomputable def K1 (td ty:TE):TE:=fun σ H Q=>td σ H fun x H1=>∃a,x=.ref a∧XR H1 a∧ty σ H1 fun y H2=>∃o,nF H2 a y o∧Q (o.getD .non) H2
noncomputable def K2 (td ty tx:TE):TE:=fun σ H Q=>td σ H fun x H1=>∃a,x=.ref a∧XR H1 a∧ty σ H1 fun y H2=>tx σ H2 fun z H3=>∃o,nF H3 a y o∧Q (o.getD z) H3
noncomputable def K5 (td ty:TE):TE:=fun σ H Q=>td σ H fun x H1=>∃a,x=.ref a∧XR H1 a∧ty σ H1 fun y H2=>∃kvs k v,H2 a=some (.dK kvs)∧y=kV k∧oN kvs k=some v∧Q v (upd H2 a (.dK (iH kvs k)))
noncomputable def K6 (td ty tx:TE):TE:=fun σ H Q=>td σ H fun x H1=>∃a,x=.ref a∧XR H1 a∧ty σ H1 fun y H2=>tx σ H2 fun z H3=>∃kvs k,H3 a=some (.dK kvs)∧y=kV k∧
 (∀v,oN kvs k=some v→Q v (upd H3 a (.dK (iH kvs k))))∧(oN kvs k=none→Q z H3)
section
variable {X:Cx} {o e f:Expr} {apos cpos:Pos} {td ty tx:TE}
end
section
variable {X:Cx} {pins:List (Addr × Obj)} {σ:St} {H:Hp} {s:Shared} {a:Addr} {kvs:List (Key × V)} {A:Around} {E:Value→Shared→Prop}
end
section
variable {X:Cx} {pins:List (Addr × Obj)} {σ:St} {H:Hp} {s:Shared} {a:Addr} {y:V} {u:Value} {A:Around} {E:Value→Shared→Prop}
end
end L2
namespace L2
open PySem PySem.Spec PyProof.Rows
section
variable {X:Cx}
end
section
variable {κ:Type} [DecidableEq κ]
end
end L2
namespace L2
open PySem PySem.Spec PyProof.Rows
section
variable {X:Cx}
end
end L2
namespace L2
open PyProof.Rows PySem PySem.Spec
section
variable {w:World} {A:Around} {E:Value→Shared→Prop} {s:Shared} {prog:Program}
end
noncomputable def Ww:List Str→List Str→Nat
 | _,[]=>0
 | seen,z :: r=>(if z∈seen then 0 else 1) + Ww (z :: seen) r
section
variable {w:World} {A:Around} {E:Value→Shared→Prop} {prog:Program}
end
end L2
namespace L2
open PyProof.Rows PySem PySem.Spec
noncomputable def Yx (P:Program) (w:World) (a:Addr) (n:Nat):HO:=.ext fun h=>∃S,Heap.SetOf (strKind P w) h a S n
section
variable {X:Cx} {K:PySem.W.Frag}
end
end L2
namespace L2
end L2
namespace L2
open PySem PySem.Spec PyProof.Rows
noncomputable def VZ {α:Type} (xs:List α) (ix:List Nat):List α:=ix.filterMap (xs[·]?)
section
variable {X:Cx} {e ec:Expr} {te:TE} {lo hi:Option Expr} {tl th ts:TO} {pos p2:Pos}
noncomputable def Wn (K:PySem.W.Frag):V→Option Int→Option Int→Option Int→Hp→VK→Prop:=fun x lo hi st H Q=>∃a xs,x=.ref a∧qC K H a xs∧st≠some 0∧∀zs:List V,(∀z∈zs,z∈xs)→zs.length≤xs.length→Nw H (.lst zs) Q
noncomputable def WC (r:V→Option Int→Option Int→Option Int→Hp→VK→Prop) (te:TE) (tl th ts:TO):TE:=fun σ H Q=>te σ H fun x H1=>tl σ H1 fun l H2=>th σ H2 fun u H3=>ts σ H3 fun c H4=>r x l u c H4 Q
noncomputable def KG (K:PySem.W.Frag):V→List V→Hp→VK→Prop:=fun x vs H Q=>∃z p ys,x=.str z∧vs=[.ref p]∧kU K H p (ys.map V.str)∧(ys.map (·.length)).sum + ys.length * z.length≤16777216∧Q (.str (Txt.join z ys)) H
end
end L2
namespace L2
open PyProof.Rows PySem PySem.Spec
theorem og (a d:Value):argsOk "max" ⟨[a],[("default",d)]⟩:=by unfold argsOk;kernel_rfl
theorem mO:(toString "max" ++ toString ".loop" : String) = "max.loop":=by decide
noncomputable def Zb (bt:Nat→Nat→Bool):Nat→Nat→Option Nat→Option Nat
 | 0,_,b=>b
 | k + 1,i,none=>Zb bt k (i + 1) (some i)
 | k + 1,i,some j=>Zb bt k (i + 1) (some (if bt i j=true then i else j))
noncomputable def Qp (P:Nat→Value→Prop) (its:Array Value):Option Nat→Prop
 | none=>its = #[]
 | some j=>∃v,its = #[v,v]∧P j v
noncomputable def Js (P:Nat→Value→Prop) (d v:Value):Option Nat→Prop
 | none=>v=d
 | some j=>P j v
noncomputable def JV (its:Array Value) (c:Nat):Obj:={ cls:=.type "list",dict:=none,data:=.seq its c,slots:=#[] }
section
variable {prog:Program} {w:World} {A:Around} {R:Result→Shared→Prop} {I S:Addr} {fp wr:List Addr} {n:Nat} {P:Nat→Value→Prop} {St:Nat→Heap→Prop} {d:Value}
theorem Zt (W:Walks prog w A.in1 I fp wr n P St) (bt:Nat→Nat→Bool) (hcmp:CmpOf prog w A.in1 .Gt P bt) (hSf:S∉fp):∀(k i:Nat) (b:Option Nat) (s:Shared) (its:Array Value) (c:Nat),i + k=n→St i s.heap→Qp P its b→s.heap.get? S=some (JV its c)→(∀v h' tk,Js P d v (Zb bt k i b)→(∀x o,x∉wr→x≠S→s.heap.get? x=some o→h'.get? x=some o)→R (.ok (.ret v)) { s with heap:=h',toks:=tk })→codeAny (model prog w) A (.builtin "max.loop" ⟨[.ref I,.none,.ref S],[("default",d)]⟩) R s:=by
 have nw:S∉wr:=fun z=>hSf (W.sub _ z)
 have far:∀{x:Addr},x∈fp→S≠x:=fun hx z=>hSf (z▸hx)
 intro k
 induction k with
 | zero=>
  intro i b s its c hik hst hb hS fin
  have e:i=n:=by omega
  subst e
  refine codeAny_builtin F.entry_max_loop ((Around.under_plainId F.plain_max_loop _).symm▸?_)
  refine(show wpAny _ _ (seqItems? (.ref S) >>= _) _ _ s from wpAny_bind (wpAny_seqItems hS rfl ?_))
  refine(show wpAny _ _ (tryCatch (pyNext (.ref I)) _ >>= _) _ _ s from wpAny_bind (wpAny_tryCatch (W.done s _ _ hst fun h1 t1 k1=>?_)))
  cases b with
  | none=>
   have e:its = #[]:=hb
   subst e
   exact wpAny_bind (wpAny_rule (wpAny_pure (fin d h1 t1 rfl fun x o hx _ q=>k1 x o hx q)))
  | some j=>
   obtain⟨v,e,hv⟩:=hb
   subst e
   have q1:=k1 S _ nw hS
   refine(show wpAny _ _ (updateSeq S (fun _=>#[]) >>= _) _ _ _ from wpAny_bind (wpAny_updateSeq q1 rfl (wpAny_bind (wpAny_letGo (wpAny_pure ?_)))))
   exact fin v _ t1 hv fun x o hx hxS q=>(Heap.get?_update_other _ _ (Ne.symm hxS)).trans (k1 x o hx q)
 | succ k ih=>
  intro i b s its c hik hst hb hS fin
  refine codeAny_builtin F.entry_max_loop ((Around.under_plainId F.plain_max_loop _).symm▸?_)
  refine(show wpAny _ _ (seqItems? (.ref S) >>= _) _ _ s from wpAny_bind (wpAny_seqItems hS rfl ?_))
  refine(show wpAny _ _ (tryCatch (pyNext (.ref I)) _ >>= _) _ _ s from wpAny_bind (wpAny_tryCatch (W.item i s _ _ (by omega) hst fun v h1 t1 hv st1 k1=>?_)))
  have q1:=k1 S _ nw hS
  have cJ:∀{f:Obj→Obj},St (i + 1) (h1.update S f):=fun {_}=>W.frame _ _ _ st1 fun x hx o q=>(Heap.get?_update_other _ _ (far hx)).trans q
  cases b with
  | none=>
   have e:its = #[]:=hb
   subst e
   refine(show wpAny _ _ (updateSeq S (fun _=>#[v,v]) >>= _) _ _ _ from wpAny_bind (wpAny_updateSeq q1 rfl (mO▸wpAny_pure ⟨plainId_quiet F.plain_max_loop _,?_⟩)))
   exact ih (i + 1) (some i) _ _ _ (by omega) cJ ⟨v,rfl,hv⟩ (Heap.get?_update_self _ q1 rfl) fun v2 h2 t2 e2 k2=>fin v2 h2 t2 e2 fun x o hx hxS q=>k2 x o hx hxS ((Heap.get?_update_other _ _ (Ne.symm hxS)).trans (k1 x o hx q))
  | some j=>
   obtain⟨vb,e,hvb⟩:=hb
   subst e
   refine(show wpAny _ _ (tryCatch (holding [v,v] (richCompare .Gt v vb >>= _)) _ >>= _) _ _ _ from wpAny_bind (wpAny_tryCatch (wpAny_holding (wpAny_bind (hcmp i j v vb _ _ _ hv hvb ?_)))))
   refine wpAny_bind (wpAny_holding (wpAny_truthy_bool (wpAny_bind (wpAny_letGo (wpAny_pure ?_)))))
   have step:Zb bt (k + 1) i (some j)=Zb bt k (i + 1) (some (if bt i j=true then i else j)):=rfl
   rw[step] at fin
   cases q:bt i j with
   | true=>
    rw[q,if_pos rfl] at fin
    refine(show wpAny _ _ (updateSeq S (fun _=>#[v,v]) >>= _) _ _ _ from wpAny_bind (wpAny_updateSeq q1 rfl (wpAny_bind (wpAny_letGo (mO▸wpAny_pure ⟨plainId_quiet F.plain_max_loop _,?_⟩)))))
    exact ih (i + 1) (some i) _ _ _ (by omega) cJ ⟨v,rfl,hv⟩ (Heap.get?_update_self _ q1 rfl) fun v2 h2 t2 e2 k2=>fin v2 h2 t2 e2 fun x o hx hxS z=>k2 x o hx hxS ((Heap.get?_update_other _ _ (Ne.symm hxS)).trans (k1 x o hx z))
   | false=>
    rw[q,if_neg (by decide)] at fin
    refine wpAny_bind (wpAny_letGo (mO▸wpAny_pure ⟨plainId_quiet F.plain_max_loop _,?_⟩))
    exact ih (i + 1) (some j) _ _ _ (by omega) st1 ⟨vb,rfl,hvb⟩ q1 fun v2 h2 t2 e2 k2=>fin v2 h2 t2 e2 fun x o hx hxS z=>k2 x o hx hxS (k1 x o hx z)
end
theorem uo (val:Nat→Int):∀(k i:Nat) (b:Option Nat),(∀j,b=some j→j < i)→(∀j,b=some j→∀x,x < i→val x≤val j)→(b=none→i=0)→(Zb (fun i j=>decide (val i > val j)) k i b=none→i + k=0)∧∀j,Zb (fun i j=>decide (val i > val j)) k i b=some j→j < i + k∧∀x,x < i + k→val x≤val j
 | 0,i,b,h1,h2,h3=>⟨fun z=>h3 z,fun j z=>⟨h1 j z,h2 j z⟩⟩
 | k + 1,i,none,h1,h2,h3=>by
  have e:=h3 rfl
  subst e
  have ih:=uo val k 1 (some 0) (fun j z=>by cases z;omega) (fun j z x hx=>by cases z;rw[show x=0 by omega];exact Int.le_refl _) (fun z=>by cases z)
  rw[show 0 + (k + 1)=1 + k by omega]
  exact ih
 | k + 1,i,some j,h1,h2,h3=>by
  have hj:=h1 j rfl
  have hm:=h2 j rfl
  rw[show i + (k + 1)=i + 1 + k by omega]
  refine uo val k (i + 1) (some (if decide (val i > val j)=true then i else j)) (fun y z=>?_) (fun y z x hx=>?_) (fun z=>by cases z)
  ·cases z
   split<;>omega
  ·cases z
   by_cases q:val i > val j
   ·rw[if_pos (decide_eq_true q)]
    by_cases hxi:x=i
    ·rw[hxi];exact Int.le_refl _
    ·have:=hm x (by omega);omega
   ·rw[if_neg (fun z=>q (of_decide_eq_true z))]
    by_cases hxi:x=i
    ·rw[hxi];omega
    ·exact hm x (by omega)
section
variable {w:World} {A:Around} {E:Value→Shared→Prop} {s:Shared} {prog:Program}
theorem maxD_may {M : Model} {a d : Value} {Q : Unit → Shared → Prop} (q : Q () s) : wpAny M A (checkBuiltinCall "max" ⟨[a], [("default", d)]⟩) Q E s := by
  have fit := og a d
  unfold argsOk at fit
  simp only [checkBuiltinCall, F.kind_max]
  cases e : Manifest.signature? "max" with
  | none => exact wpAny_pure q
  | some sig => exact wpAny_of_eq (by rw [e] at fit; exact fit) q
theorem nR {l : Addr} {d : Value} {xs : Array (Int × Tok)} {Q : Value → Shared → Prop} (hh : A.handled = none) (hl : s.heap.IsList l (intItems xs)) (h : ∀ v h' tk, Js (fun i v => (intItems xs)[i]? = some v) d v (Zb (fun i j => decide (numAt xs i > numAt xs j)) xs.size 0 none) → (∀ b o, s.heap.get? b = some o → h'.get? b = some o) → Q v { s with heap := h', toks := tk }) : wpAny (model prog w) A (call (.builtin "max") [.ref l] [("default", d)]) Q E s := by
  refine wpAny_call (codeAny_call_builtin F.plain_max F.entry_max (maxD_may ?_))
  refine (?_ : wpAny _ _ (Builtin.Builtins.bindParams "max" ["key", "default"] 0 ⟨[], [("default", d)]⟩ >>= _) _ _ s)
  refine wpAny_bind (wpAny_of_eq (a := [none, some d]) rfl ?_)
  refine wpAny_bind (wpAny_pure (wpAny_bind (iter_intList hl fun s2 e st hfp hlI => ?_)))
  subst e
  have as_many : 0 + xs.size = (intItems xs).size := by simp [intItems]
  have W := Walks.list (prog := prog) (w := w) (A := A.in1) hh s.heap.objs.size l hlI (intItems xs)
  have own : ∀ {c : Addr} {o u : Obj} {hp : Heap}, hp.get? c = some o → (hp.push u).get? c = some o := fun e => Heap.get?_push_of_some _ e
  refine wpAny_bind (wpAny_newObj_type (mO ▸ wpAny_pure ⟨plainId_quiet F.plain_max_loop _, ?_⟩))
  refine Zt W _ (CmpOf.ints_gt (numAt xs) fun _ _ => intItems_at) (fun y => Nat.lt_irrefl _ (hfp _ y)) xs.size 0 none _ #[] _ as_many (W.frame _ _ _ st fun b _ o e => own e) rfl (Heap.get?_push_size _ rfl) fun v h' tk hv k => ?_
  exact h v h' tk hv (old_kept fun b o nb e => k b o nb (Nat.ne_of_lt (Heap.lt_size e)) (own e))
end
noncomputable def Qq (K:PySem.W.Frag) (d:V):V→Hp→VK→Prop:=fun x H Q=>∃l ns,x=.ref l∧qC K H l (ns.map V.int)∧(ns=[]→Q d H)∧∀M:Int,M∈ns→(∀a∈ns,a≤M)→Q (.int M) H
noncomputable def XQ (K:PySem.W.Frag) (te tk:TE):TE:=fun σ H Q=>te σ H fun x H1=>tk σ H1 fun d H2=>Qq K d x H2 Q
theorem rB:∀{ns:List Int} {us:List Value},Vals (ns.map V.int) us→∃ys:List (Int × Tok),us=ys.map (fun p=>Value.int p.1 p.2)∧ys.map (·.1)=ns
 | [],us,h=>by cases h;exact⟨[],rfl,rfl⟩
 | n :: ns,us,h=>by
  cases h with
  | cons r rr=>
   obtain⟨t,rfl⟩:=r
   obtain⟨ys,rfl,e⟩:=rB rr
   exact⟨(n,t) :: ys,rfl,by rw[List.map_cons,e]⟩
section
variable {X:Cx} {e ek:Expr} {te tk:TE} {p pos kp:Pos}
theorem ZJ {K:PySem.W.Frag} (hK:X.K=K) (hc:X.calm=true) (hg:Gl X "max") (hm:X.mg "max" = none) (he:PE X e te) (hk:PE X ek tk)
  (hs:starEach [e] X.env=(false,eval e X.env) :: starEach [] X.env:=by rfl):PE X (.Call (.Name "max" p) [e] [⟨some "default",ek,kp⟩] pos) (XQ K te tk):=by
 subst hK
 intro pins s σ H Q I h
 refine wpAny_Call_Name_kw (fP I hg hm PyProof.Rows.boot_max ?_)
 refine callWith_kw (xy ((z0 he z6 hs) pos pins s σ H (fun vs H1=>match vs with | [x]=>tk σ H1 fun d H2=>Qq X.K d x H2 Q | _=>False) I h) fun us s1 ⟨vs,H1,I1,r1,q1⟩=>?_) (by rw[hs];rfl) (by rw[hs];rfl)
 match vs,r1,q1 with
 | [x],r1,q1=>
  obtain⟨u,rfl,ru⟩:=vals1 r1
  refine kws_cons (xy (hk pins s1 σ H1 _ I1 q1) fun vd s2 ⟨d,H2,I2,rd,q2⟩=>kws_nil ?_)
  show wpAny _ _ (call (.builtin "max") [u] [("default",vd)]) _ _ s2
  obtain⟨l,ns,rfl,hl,k0,k1⟩:=q2
  cases ru
  obtain⟨its,rv,pl,_⟩:=I2.list hl
  obtain⟨ys,rfl,rfl⟩:=rB rv
  have hit:s2.heap.IsList l (intItems ys.toArray):=by
   have e:(ys.map fun p=>Value.int p.1 p.2).toArray=intItems ys.toArray:=by simp [intItems]
   rw[←e];exact pl.isList
  refine nR (I2.ok.hd hc) hit fun v h' tk' hv hk'=>?_
  have hs2:ys.toArray.size=ys.length:=by simp
  obtain⟨g1,g2⟩:=uo (numAt ys.toArray) ys.toArray.size 0 none (fun j z=>by cases z) (fun j z=>by cases z) (fun _=>rfl)
  cases q:Zb (fun i j=>decide (numAt ys.toArray i > numAt ys.toArray j)) ys.toArray.size 0 none with
  | none=>
   rw[q] at hv
   have h0:ys=[]:=List.length_eq_zero_iff.mp (by have:=g1 q;omega)
   subst h0
   have hv':v=vd:=hv
   subst hv'
   exact⟨d,H2,I2.kept hk',rd,k0 rfl⟩
  | some j=>
   rw[q] at hv
   obtain⟨hj,hmx⟩:=g2 j q
   obtain⟨tt,rfl⟩:=intItems_at (show (intItems ys.toArray)[j]?=some v from hv)
   refine⟨.int _,H2,I2.kept hk',⟨tt,rfl⟩,k1 _ ?_ fun a ha=>?_⟩
   ·rw[numAt_eq]
    exact getD_mem (by rw[List.length_map];simp only[List.size_toArray] at *;omega)
   ·obtain⟨y,hy,rfl⟩:=mem_getD ha
    rw[List.length_map] at hy
    have:=hmx y (by omega)
    rw[numAt_eq] at this
    exact this
end
end L2
namespace L2
open PyProof.Rows PySem PySem.Spec
noncomputable def Xe (D0:Ends) (M:St→Hp→Prop):TS:=fun D σ H=>D=D0∧M σ H
theorem hG {X:Cx} {b:List Stmt} {tb:TS} {D0:Ends} {M:St→Hp→Prop} (h:sk X b tb) (hM:∀σ H,M σ H→tb D0 σ H):sk X b (Xe D0 M):=fun pins s σ H D I ⟨e,m⟩=>by
 subst e
 exact h pins s σ H D I (hM σ H m)
end L2
set_option maxRecDepth 100000
namespace My
open PySem PySem.Spec PyProof.Rows L2
seal PE PT PW PA PS sk PI PG Jg PO PC V7 V5
local macro_rules | `(tactic| walk_at "lk")=>`(tactic| first | assumption | exact qg | exact JE (by assumption) (by walk_at "sm") | (refine qx.look (by assumption) ?_;walk_at "lk"))
local macro_rules | `(tactic| walk_at "sq")=>`(tactic| first | assumption | exact qC.of (by walk_at "lk") | exact KS (by assumption) (by walk_at "sm"))
local macro_rules | `(tactic| walk_at "sqT")=>`(tactic| first | assumption | exact kU.of (by walk_at "lk") | exact seqTS (by assumption) (by walk_at "sm"))
local macro_rules | `(tactic| walk_at "sm")=>`(tactic| first | assumption | exact qx.refl _ | (refine qx.trans ?_ (by assumption);walk_at "sm"))
local macro_rules | `(tactic| walk_at "sz")=>`(tactic| first | with_reducible assumption | with_reducible exact ZZ | ((with_reducible apply aE)<;>walk_at "sz") | ((with_reducible apply slice_len);walk_at "sz") | with_reducible exact i5 _)
local macro_rules | `(tactic| walk_at "num")=>`(tactic| first | decide +kernel | omega | (simp only[List.length_cons,List.length_nil];omega))
local macro_rules | `(tactic| walk_at "lsz")=>`(tactic| first
 | ((with_reducible apply Ql);(focus walk_at "sz");(focus walk_at "sz");walk_at "num")
 | ((with_reducible apply qy);first | decide +kernel | (simp only[List.length_cons,List.length_nil,List.length_map,List.length_append];omega))
 | ((with_reducible apply small_of);(focus walk_at "sz");walk_at "num"))
local macro_rules | `(tactic| walk_at "ar")=>`(tactic| first
 | walk_at "lsz"
 | omega
 | (refine And.intro ?_ ?_<;>omega)
 | (refine Or.inl (And.intro ?_ ?_)<;>omega)
 | (refine Or.inr (And.intro ?_ ?_)<;>omega)
 | decide +kernel
 | (show (0:Int) < _;decide +kernel)
 | (show (0:Int) < _;omega)
 | (refine And.intro ?_ (And.intro ?_ ?_)<;>decide +kernel))
local macro_rules | `(tactic| walk_at "lsl")=>`(tactic| first
 | exact fO (by simp only[List.length_cons,List.length_nil,List.length_map,List.length_append];omega)
 | exact fO (by omega))
local macro_rules | `(tactic| walk_at "own")=>`(tactic| fail)
local macro_rules | `(tactic| walk_at "fld")=>`(tactic| fail)
local macro_rules | `(tactic| walk_at "r1")=>`(tactic| (fail_if_success (refine Exists.intro (α:=Nat→Nat→L2.St→Hp→Prop) ?_ ?_));first
 | refine⟨_,rfl,?_⟩
 | refine⟨_,(by walk_at "fld" : nD _ _ _ _ _),?_⟩
 | refine⟨_,_,rfl,rfl,?_⟩
 | refine⟨_,_,_,_,rfl,rfl,by walk_at "sq",ip (by walk_at "num") (by walk_at "num"),?_⟩
 | refine⟨_,_,_,_,rfl,rfl,by walk_at "sq",pZ (by walk_at "num") (by walk_at "num"),?_⟩
 | refine⟨_,_,_,_,rfl,rfl,by walk_at "sqT",rfl,?_⟩
 | refine⟨_,_,rfl,.inr (by walk_at "sqT"),rfl,rfl,?_⟩
 | refine⟨_,_,rfl,.inl (by walk_at "sq"),rfl,rfl,?_⟩
 | refine⟨_,_,_,rfl,rfl,by walk_at "lsz",ic (by omega) (by omega),?_⟩
 | refine⟨_,_,_,rfl,rfl,by walk_at "lk",by walk_at "lsl",?_⟩
 | refine⟨_,_,rfl,by walk_at "sq",?_⟩
 | refine⟨_,_,rfl,by walk_at "sqT",rfl,?_⟩
 | (refine And.intro ?_ ?_;· (apply Exists.intro;walk_at "sq"))
 | (refine And.intro (Or.inl (And.intro rfl ?_)) ?_;· (apply Exists.intro;walk_at "sq"))
 | refine⟨_,_,rfl,?_⟩
 | refine⟨_,_,_,rfl,?_⟩
 | refine And.intro rfl ?_
 | (refine And.intro ?_ ?_;· assumption)
 | refine⟨_,_,.type "bool",true,rfl,.inl ⟨_,rfl⟩,kx.bl _,pR _ _,?_⟩
 | refine⟨_,_,.type "str",true,rfl,.inl ⟨_,rfl⟩,kx.str _,pR _ _,?_⟩
 | refine⟨_,_,.type "int",true,rfl,.inl ⟨_,rfl⟩,kx.int _,pR _ _,?_⟩
 | refine⟨_,_,.type "list",true,rfl,.inl ⟨_,rfl⟩,kx.lst (by walk_at "lk"),pR _ _,?_⟩
 | (refine And.intro ?_ ?_;· walk_at "ar")
 | refine pP ?_
 | refine rP ?_
 | refine JO rfl ?_)
local macro_rules | `(tactic| walk_at "rd")=>`(tactic| repeat (first | walk_at "own" | walk_at "r1"))
local macro_rules | `(tactic| walk_at "rdi")=>`(tactic| repeat (first | walk_at "own" | walk_at "r1" | ((show Nw _ _ _);intro _ _ _ _ _)))
set_option genInjectivity false
set_option genSizeOf false
noncomputable def top (i:Nat):Stmt:=PySem.Challenge.pw_pactway_k22_parts_told.main.body.getD i (.Pass ⟨0,0,0,0⟩)
noncomputable abbrev jt:Stmt:=inClass (top 2) 0
noncomputable abbrev jJ:Stmt:=inClass (top 3) 0
noncomputable abbrev qB:Stmt:=inClass (top 3) 1
noncomputable abbrev jS:Stmt:=inClass (top 3) 2
noncomputable abbrev j6:Stmt:=inClass (top 4) 0
noncomputable abbrev j7:Stmt:=inClass (top 4) 1
noncomputable abbrev jC:Stmt:=inClass (top 5) 0
noncomputable abbrev xt:Stmt:=inClass (top 6) 0
noncomputable abbrev xn:Stmt:=inClass (top 6) 1
noncomputable abbrev jU:Stmt:=inClass (top 7) 0
noncomputable abbrev jR:Stmt:=inClass (top 7) 1
noncomputable abbrev xo:Stmt:=inClass (top 9) 0
noncomputable abbrev jw:Stmt:=inClass (top 9) 1
noncomputable abbrev j9:Stmt:=inClass (top 10) 0
noncomputable abbrev jj:Stmt:=inClass (top 10) 1
noncomputable abbrev jq:Stmt:=inClass (top 10) 2
noncomputable abbrev j8:Stmt:=inClass (top 11) 0
noncomputable abbrev jm:Stmt:=top 12
noncomputable abbrev jL:Stmt:=top 13
noncomputable abbrev jX:Stmt:=top 14
noncomputable abbrev qI:Stmt:=top 15
noncomputable abbrev jd:Stmt:=top 16
noncomputable abbrev xq:Stmt:=top 18
noncomputable abbrev vP:Stmt:=top 19
noncomputable abbrev kP:Stmt:=top 20
noncomputable abbrev xu:Stmt:=top 21
noncomputable abbrev xa:Stmt:=top 22
noncomputable abbrev xZ:Stmt:=top 23
noncomputable abbrev vF:Stmt:=top 24
noncomputable abbrev xQ:Stmt:=top 26
noncomputable abbrev ju:Stmt:=top 27
noncomputable abbrev xi:Stmt:=top 28
noncomputable abbrev kz:Stmt:=top 29
noncomputable abbrev jc:Stmt:=top 30
noncomputable abbrev jZ:Stmt:=top 31
noncomputable abbrev xr:Stmt:=top 32
noncomputable abbrev kh:Stmt:=top 33
structure Def (K:PySem.W.Frag) (mg:Str→Option Value) (x:Str) (st:Stmt) (ps:List Str) (f:Addr) (fd:FuncData):Prop where
 fn:Qb K x x st f fd
 bd:Binds K fd ps []
 mg:mg x=some (.ref f)
structure gv (K:PySem.W.Frag) (x q:Str) (st:Stmt) (ps:List Str) (f:Addr) (fd:FuncData):Prop where
 fn:Qb K x q st f fd
 bd:Binds K fd ps []
structure ja where
 yE:Addr
 yI:FuncData
 qO:Addr
 xj:FuncData
 jy:Addr
 km:FuncData
 bf:Addr
 bp:FuncData
 ki:Addr
 wa:FuncData
 wQ:Addr
 gg:FuncData
 vY:Addr
 yo:FuncData
 kL:Addr
 yn:FuncData
 yW:Addr
 bT:FuncData
 x4:Addr
 vW:FuncData
 vG:Addr
 ye:FuncData
 vA:Addr
 yi:FuncData
 ky:Addr
 vQ:FuncData
 ke:Addr
 vh:FuncData
 xh:Addr
 xE:FuncData
 x3:Addr
 kR:FuncData
 vf:Addr
 wZ:FuncData
 jV:Addr
 jK:FuncData
 jD:Addr
 jM:FuncData
 x5:Addr
 xA:FuncData
 xb:Addr
 xg:FuncData
 kX:Addr
 kQ:FuncData
 vm:Addr
 vp:FuncData
 yH:Addr
 yJ:FuncData
 pW:Addr
 pX:FuncData
 g6:Addr
 gI:FuncData
 yY:Addr
 yZ:FuncData
 yG:Addr
 yQ:FuncData
 mU:Addr
 mD:FuncData
 yB:Addr
 yX:FuncData
 kK:Addr
 kJ:FuncData
 wz:Addr
 vI:FuncData
 g8:Addr
 gA:FuncData
 xF:Addr
 xP:FuncData
 yP:Addr
 yK:FuncData
 g7:Addr
 gE:FuncData
 pV:Addr
 mF:FuncData
 Z0:Addr
 jx:Addr
 jI:Addr
 jh:Addr
 xB:Addr
 jb:Addr
 vg:Addr
 qa:Addr
 jF:Addr
structure Txt (K:PySem.W.Frag) (mg:Str→Option Value) (t:ja):Prop where
 cj:gv K "rows_told" "Row.rows_told" jt ["self"] t.yE t.yI
 ku:gv K "__init__" "Clause.__init__" jJ ["self","label","who","act"] t.qO t.xj
 jN:gv K "rows_told" "Clause.rows_told" qB ["self"] t.jy t.km
 uA:gv K "tail" "Clause.tail" jS ["self"] t.bf t.bp
 fZ:gv K "__init__" "Duty.__init__" j6 ["self","label","who","act","turns","room"] t.ki t.wa
 fQ:gv K "tail" "Duty.tail" j7 ["self"] t.wQ t.gg
 bD:gv K "tail" "Leave.tail" jC ["self"] t.vY t.yo
 m9:gv K "__init__" "Ban.__init__" xt ["self","label","who","act","room"] t.kL t.yn
 dz:gv K "tail" "Ban.tail" xn ["self"] t.yW t.bT
 bU:gv K "__init__" "Power.__init__" jU ["self","label","who","act","room"] t.x4 t.vW
 bR:gv K "tail" "Power.tail" jR ["self"] t.vG t.ye
 dq:gv K "__init__" "Let.__init__" xo ["self","name","value"] t.vA t.yi
 wC:gv K "rows_told" "Let.rows_told" jw ["self"] t.ky t.vQ
 kl:gv K "__init__" "Part.__init__" j9 ["self","name","rooms","rows"] t.ke t.vh
 xH:gv K "rows_told" "Part.rows_told" jj ["self"] t.xh t.xE
 vS:gv K "first_row" "Part.first_row" jq ["self"] t.x3 t.kR
 gT:gv K "__init__" "Pact.__init__" j8 ["self","parties","acts","rooms","whole"] t.vf t.wZ
 qT:Def K mg "clauses_of" jm ["part"] t.jV t.jK
 qA:Def K mg "parts_of" jL ["part"] t.jD t.jM
 xJ:Def K mg "depth_of" jX ["part"] t.x5 t.xA
 jY:Def K mg "parts_within" qI ["part"] t.xb t.xg
 jl:Def K mg "part_named" jd ["pact","name"] t.kX t.kQ
 jg:Def K mg "_law_cell_at" xq ["_law_script","_law_k"] t.vm t.vp
 jT:Def K mg "_law_mix" vP ["_law_cell","_law_k"] t.yH t.yJ
 d7:Def K mg "_law_name" kP ["_law_cell","_law_k"] t.pW t.pX
 fo:Def K mg "_law_event" xu ["_law_names","_law_cell","_law_label","_law_depth"] t.g6 t.gI
 gU:Def K mg "_law_events" xa ["_law_names","_law_script"] t.yY t.yZ
 gR:Def K mg "_law_header" xZ ["_law_names","_law_cell"] t.yG t.yQ
 sq:Def K mg "_law_row" vF ["_law_event_here"] t.mU t.mD
 gL:Def K mg "_law_object" xQ ["_law_event_here"] t.yB t.yX
 kM:Def K mg "_law_whole_part" ju ["_law_events_here"] t.kK t.kJ
 vi:Def K mg "_law_clause" xi ["_law_row_here"] t.wz t.vI
 fi:Def K mg "_law_spans" kz ["_law_events_here"] t.g8 t.gA
 js:Def K mg "_law_part_right" jc ["_law_part","_law_span","_law_rows_here"] t.xF t.xP
 gS:Def K mg "_law_within" jZ ["_law_part","_law_span","_law_events_here"] t.yP t.yK
 wM:Def K mg "_law_right" xr ["_law_whole","_law_events_here","_law_spans_here","_law_rows_here"] t.g7 t.gE
 aH:Def K mg "law" kh ["_law_script"] t.pV t.mF
 wU:mg "list" = none
 bh:mg "len" = none
 we:mg "range" = none
 pQ:mg "int" = none
 iu:mg "str" = none
 qM:mg "isinstance" = none
 su:mg "bool" = none
 tL:mg "max" = none
 ZE:mg "zip" = none
 JA:mg "Row" = some (.ref t.Z0)
 pL:mg "Clause" = some (.ref t.jx)
 sV:mg "Duty" = some (.ref t.jI)
 mN:mg "Leave" = some (.ref t.jh)
 i6:mg "Ban" = some (.ref t.xB)
 ua:mg "Power" = some (.ref t.jb)
 Z7:mg "Let" = some (.ref t.vg)
 wN:mg "Part" = some (.ref t.qa)
 sW:mg "Pact" = some (.ref t.jF)
 cP:mY K t.jx
 bK:qK K t.jx "act"
 y4:qK K t.jx "label"
 gQ:qK K t.jx "room"
 y7:qK K t.jx "turns"
 bV:qK K t.jx "who"
 cE:Mk K t.jx t.qO
 tN:mY K t.jI
 mh:qK K t.jI "act"
 bW:qK K t.jI "label"
 pO:qK K t.jI "room"
 bY:qK K t.jI "turns"
 mf:qK K t.jI "who"
 uZ:Mk K t.jI t.ki
 pS:Meth K t.jI "tail" t.wQ
 wK:Meth K t.jI "rows_told" t.jy
 rg:mY K t.jh
 pI:qK K t.jh "act"
 gJ:qK K t.jh "label"
 bG:qK K t.jh "room"
 gX:qK K t.jh "turns"
 pE:qK K t.jh "who"
 bJ:Meth K t.jh "tail" t.vY
 dX:Mk K t.jh t.qO
 wx:Meth K t.jh "rows_told" t.jy
 ia:mY K t.xB
 dY:qK K t.xB "act"
 pT:qK K t.xB "label"
 mw:qK K t.xB "room"
 pN:qK K t.xB "turns"
 dG:qK K t.xB "who"
 sR:Mk K t.xB t.kL
 mv:Meth K t.xB "tail" t.yW
 yp:Meth K t.xB "rows_told" t.jy
 rh:mY K t.jb
 p8:qK K t.jb "act"
 gW:qK K t.jb "label"
 bB:qK K t.jb "room"
 gY:qK K t.jb "turns"
 fz:qK K t.jb "who"
 dW:Mk K t.jb t.x4
 bX:Meth K t.jb "tail" t.vG
 wy:Meth K t.jb "rows_told" t.jy
 bS:mY K t.vg
 gK:qK K t.vg "name"
 yD:qK K t.vg "value"
 i8:Mk K t.vg t.vA
 yf:Meth K t.vg "rows_told" t.ky
 xY:mY K t.qa
 yC:qK K t.qa "name"
 wI:qK K t.qa "rooms"
 yU:qK K t.qa "rows"
 yM:Mk K t.qa t.ke
 kG:Meth K t.qa "rows_told" t.xh
 wV:Meth K t.qa "first_row" t.x3
 gO:mY K t.jF
 pA:qK K t.jF "acts"
 y8:qK K t.jF "parties"
 bH:qK K t.jF "rooms"
 wO:qK K t.jF "whole"
 uQ:Mk K t.jF t.vf
 fX:ij K t.jx "__init__" t.qO
 rQ:ij K t.jh "__init__" t.qO
 pM:PySem.W.kitOne K (.ref t.jI) (.ref t.jI)=some true
 br:PySem.W.kitOne K (.ref t.jh) (.ref t.jI)=some false
 gd:PySem.W.kitOne K (.ref t.jh) (.ref t.jh)=some true
 pC:PySem.W.kitOne K (.ref t.jh) (.ref t.xB)=some false
 gc:PySem.W.kitOne K (.ref t.jh) (.ref t.jb)=some false
 mz:PySem.W.kitOne K (.ref t.xB) (.ref t.jI)=some false
 dr:PySem.W.kitOne K (.ref t.xB) (.ref t.xB)=some true
 bZ:PySem.W.kitOne K (.ref t.jb) (.ref t.jI)=some false
 pU:PySem.W.kitOne K (.ref t.jb) (.ref t.xB)=some false
 gr:PySem.W.kitOne K (.ref t.jb) (.ref t.jb)=some true
 gm:PySem.W.kitOne K (.ref t.jI) (.ref t.jx)=some true
 y1:PySem.W.kitOne K (.ref t.jh) (.ref t.jx)=some true
 bu:PySem.W.kitOne K (.ref t.xB) (.ref t.jx)=some true
 y3:PySem.W.kitOne K (.ref t.jb) (.ref t.jx)=some true
 ba:PySem.W.kitOne K (.ref t.vg) (.ref t.jx)=some false
 gu:PySem.W.kitOne K (.ref t.qa) (.ref t.jx)=some false
 pD:PySem.W.kitOne K (.ref t.jI) (.ref t.qa)=some false
 bo:PySem.W.kitOne K (.ref t.jh) (.ref t.qa)=some false
 mq:PySem.W.kitOne K (.ref t.xB) (.ref t.qa)=some false
 bQ:PySem.W.kitOne K (.ref t.jb) (.ref t.qa)=some false
 wJ:PySem.W.kitOne K (.ref t.vg) (.ref t.qa)=some false
 x6:PySem.W.kitOne K (.ref t.qa) (.ref t.qa)=some true
 gs:PySem.W.kitOne K (.type "int") (.type "bool")=some false
 fD:PySem.W.specialIn K (.builtin "object.__class__") "__get__" = some (some (.builtin "getset_descriptor.__get__"))
 cA:PySem.W.takesIn K (.builtin "object.__class__")=some true
 uj:PySem.W.findIn K (.ref t.jx) "__class__" = some (some (.builtin "object.__class__"))∧PySem.W.mroIn K t.jx (.type "object")=some true
 nB:PySem.W.findIn K (.ref t.jI) "__class__" = some (some (.builtin "object.__class__"))∧PySem.W.mroIn K t.jI (.type "object")=some true
 lT:PySem.W.findIn K (.ref t.jh) "__class__" = some (some (.builtin "object.__class__"))∧PySem.W.mroIn K t.jh (.type "object")=some true
 aV:PySem.W.findIn K (.ref t.xB) "__class__" = some (some (.builtin "object.__class__"))∧PySem.W.mroIn K t.xB (.type "object")=some true
 lN:PySem.W.findIn K (.ref t.jb) "__class__" = some (some (.builtin "object.__class__"))∧PySem.W.mroIn K t.jb (.type "object")=some true
 tW:PySem.W.findIn K (.ref t.vg) "__class__" = some (some (.builtin "object.__class__"))∧PySem.W.mroIn K t.vg (.type "object")=some true
 yN:PySem.W.findIn K (.ref t.qa) "__class__" = some (some (.builtin "object.__class__"))∧PySem.W.mroIn K t.qa (.type "object")=some true
section
variable {P:Program} {w:World} {K:PySem.W.Frag} {mg:Str→Option Value} {base:Heap} {t:ja}
end
noncomputable def ny:List Str:=["acts","any","be","by","calm","done","else","end","in","let","may","must","not","part","parties","rest","sore","to","whole"]
noncomputable def di:List Str:=["calm","sore","end"]
noncomputable abbrev q9:Str:="abcdefghijklmnopqrstuvwxyz"
noncomputable abbrev vU:Str:="0123456789"
section
variable {P:Program} {w:World} {K:PySem.W.Frag} {mg:Str→Option Value} {base:Heap} {t:ja}
end
structure Good (N:Nat) (x:Str):Prop where
 lo:1≤x.length
 hi:x.length≤N
 as:asc x
structure CF (K:PySem.W.Frag) (C fI:Addr):Prop where
 cl:mY K C
 nl:qK K C "label"
 nw:qK K C "who"
 na:qK K C "act"
 nt:qK K C "turns"
 nr:qK K C "room"
 W6:Mk K C fI
noncomputable def f3 (l w a:Str):List (Str × V):=[("label",.str l),("who",.str w),("act",.str a)]
noncomputable def f4 (l w a r:Str):List (Str × V):=[("label",.str l),("who",.str w),("act",.str a),("room",.str r)]
noncomputable def f5 (l w a:Str) (n:Int) (r:Str):List (Str × V):=[("label",.str l),("who",.str w),("act",.str a),("turns",.int n),("room",.str r)]
theorem n1:¬(("label" : Str) = "who"):=by decide +kernel
theorem n2:¬(("label" : Str) = "act"):=by decide +kernel
theorem n3:¬(("who" : Str) = "act"):=by decide +kernel
theorem n4:¬(("label" : Str) = "room"):=by decide +kernel
theorem n5:¬(("who" : Str) = "room"):=by decide +kernel
theorem n6:¬(("act" : Str) = "room"):=by decide +kernel
theorem n7:¬(("label" : Str) = "turns"):=by decide +kernel
theorem n8:¬(("who" : Str) = "turns"):=by decide +kernel
theorem n9:¬(("act" : Str) = "turns"):=by decide +kernel
theorem Vi:¬(("turns" : Str) = "room"):=by decide +kernel
theorem put3 (l w a:Str):qR "act" (.str a) (qR "who" (.str w) (qR "label" (.str l) []))=f3 l w a:=by
 simp only[qR,f3,if_neg n1,if_neg n2,if_neg n3]
theorem J9 (l w a r:Str):qR "room" (.str r) (f3 l w a)=f4 l w a r:=by
 simp only[qR,f3,f4,if_neg n4,if_neg n5,if_neg n6]
theorem KW (l w a:Str) (n:Int) (r:Str):qR "room" (.str r) (qR "turns" (.int n) (f3 l w a))=f5 l w a n r:=by
 simp only[qR,f3,f5,if_neg n7,if_neg n8,if_neg n9,if_neg n4,if_neg n5,if_neg n6,if_neg Vi]
noncomputable def mQ (k:Int) (l w a:Str) (n:Int) (r:Str):List (Str × V):=if k=0 then f5 l w a n r else if k=2∨k=3 then f4 l w a r else f3 l w a
theorem jE {x:Str} {v:V} {r:List (Str × V)}:List.lookup x ((x,v) :: r)=some v:=by simp [List.lookup]
theorem qp {x y:Str} {v:V} {r:List (Str × V)} (h:¬(x=y)):List.lookup x ((y,v) :: r)=List.lookup x r:=by
 have:(x == y)=false:=beq_eq_false_iff_ne.mpr h
 simp [List.lookup,this]
theorem se (k:Int) (l w a:Str) (n:Int) (r:Str):(mQ k l w a n r).lookup ("label" : Str)=some (.str l):=by
 unfold mQ;split
 ·exact jE
 ·split<;>exact jE
theorem iC (k:Int) (l w a:Str) (n:Int) (r:Str):(mQ k l w a n r).lookup ("who" : Str)=some (.str w):=by
 have h:=fun q=>n1 (Eq.symm q)
 unfold mQ;split
 ·exact(qp h).trans jE
 ·split<;>exact(qp h).trans jE
theorem iD (k:Int) (l w a:Str) (n:Int) (r:Str):(mQ k l w a n r).lookup ("act" : Str)=some (.str a):=by
 have h1:=fun q=>n2 (Eq.symm q)
 have h2:=fun q=>n3 (Eq.symm q)
 unfold mQ;split
 ·exact(qp h1).trans ((qp h2).trans jE)
 ·split<;>exact(qp h1).trans ((qp h2).trans jE)
theorem sZ (l w a:Str) (n:Int) (r:Str):(mQ 0 l w a n r).lookup ("turns" : Str)=some (.int n):=
 (qp fun q=>n7 (Eq.symm q)).trans ((qp fun q=>n8 (Eq.symm q)).trans ((qp fun q=>n9 (Eq.symm q)).trans jE))
theorem nO {k:Int} (hk:k=0∨k=2∨k=3) (l w a:Str) (n:Int) (r:Str):(mQ k l w a n r).lookup ("room" : Str)=some (.str r):=by
 have h1:=fun q=>n4 (Eq.symm q)
 have h2:=fun q=>n5 (Eq.symm q)
 have h3:=fun q=>n6 (Eq.symm q)
 have h4:=fun q=>Vi (Eq.symm q)
 unfold mQ
 by_cases h0:k=0
 ·rw[if_pos h0]
  exact(qp h1).trans ((qp h2).trans ((qp h3).trans ((qp h4).trans jE)))
 ·rw[if_neg h0,if_pos (hk.resolve_left h0)]
  exact(qp h1).trans ((qp h2).trans ((qp h3).trans jE))
theorem Zh {m:Str} (k:Int) (l w a:Str) (n:Int) (r:Str) (h:m∉(["label","who","act","turns","room"]:List Str)):(mQ k l w a n r).lookup m=none:=by
 simp only[List.mem_cons,not_or] at h
 obtain⟨h1,h2,h3,h4,h5,_⟩:=h
 unfold mQ;split
 ·exact(qp h1).trans ((qp h2).trans ((qp h3).trans ((qp h4).trans ((qp h5).trans rfl))))
 ·split
  ·exact(qp h1).trans ((qp h2).trans ((qp h3).trans ((qp h5).trans rfl)))
  ·exact(qp h1).trans ((qp h2).trans ((qp h3).trans rfl))
noncomputable def vN (t:ja) (k:Int):Addr:=if k=0 then t.jI else if k=1 then t.jh else if k=2 then t.xB else if k=3 then t.jb else t.jx
noncomputable def At (t:ja) (H:Hp) (p:Addr) (k:Int) (l w a:Str) (n:Int) (r:Str):Prop:=∃dx,H p=some (.ins (vN t k) dx (mQ k l w a n r))
noncomputable def ao (K:PySem.W.Frag):Sp:=fun vs H Q _=>∃(p C dx fI:Addr) (l w a:Str),vs=[.ref p,.str l,.str w,.str a]∧CF K C fI∧H p=some (.ins C dx [])∧Q .non (upd H p (.ins C dx (f3 l w a)))
noncomputable def ZD (K:PySem.W.Frag):Sp:=fun vs H Q _=>∃(p C dx fI:Addr) (l w a r:Str),vs=[.ref p,.str l,.str w,.str a,.str r]∧CF K C fI∧H p=some (.ins C dx [])∧Q .non (upd H p (.ins C dx (f4 l w a r)))
noncomputable def Xf (K:PySem.W.Frag):Sp:=fun vs H Q _=>∃(p C dx fI:Addr) (l w a:Str) (n:Int) (r:Str),vs=[.ref p,.str l,.str w,.str a,.int n,.str r]∧CF K C fI∧H p=some (.ins C dx [])∧Q .non (upd H p (.ins C dx (f5 l w a n r)))
theorem tT {K:PySem.W.Frag} {mg:Str→Option Value} {t:ja} (T:Txt K mg t):CF K t.jI t.ki:=⟨T.tN,T.bW,T.mf,T.mh,T.bY,T.pO,T.uZ⟩
theorem rj {K:PySem.W.Frag} {mg:Str→Option Value} {t:ja} (T:Txt K mg t):CF K t.jh t.qO:=⟨T.rg,T.gJ,T.pE,T.pI,T.gX,T.bG,T.dX⟩
theorem il {K:PySem.W.Frag} {mg:Str→Option Value} {t:ja} (T:Txt K mg t):CF K t.xB t.kL:=⟨T.ia,T.pT,T.dG,T.dY,T.pN,T.mw,T.sR⟩
theorem rk {K:PySem.W.Frag} {mg:Str→Option Value} {t:ja} (T:Txt K mg t):CF K t.jb t.x4:=⟨T.rh,T.gW,T.fz,T.p8,T.gY,T.bB,T.dW⟩
theorem nL {K:PySem.W.Frag} {mg:Str→Option Value} {t:ja} (T:Txt K mg t):CF K t.jx t.qO:=⟨T.cP,T.y4,T.bV,T.bK,T.y7,T.gQ,T.cE⟩
theorem dk {K:PySem.W.Frag} {mg:Str→Option Value} {t:ja} (T:Txt K mg t) (k:Int):∃fI,CF K (vN t k) fI:=by
 unfold vN
 split
 ·exact⟨_,tT T⟩
 split
 ·exact⟨_,rj T⟩
 split
 ·exact⟨_,il T⟩
 split
 ·exact⟨_,rk T⟩
 ·exact⟨_,nL T⟩
section
variable {K:PySem.W.Frag} {mg:Str→Option Value} {t:ja} {H:Hp} {p:Addr} {k:Int} {l w a:Str} {n:Int} {r:Str} {Q:VK}
theorem At.fl (T:Txt K mg t) (h:At t H p k l w a n r):nD K H (.ref p) "label" (.str l):=by
 obtain⟨dx,e⟩:=h
 obtain⟨fI,F⟩:=dk T k
 exact⟨p,_,dx,_,rfl,e,F.cl,F.nl,se _ _ _ _ _ _⟩
theorem At.fw (T:Txt K mg t) (h:At t H p k l w a n r):nD K H (.ref p) "who" (.str w):=by
 obtain⟨dx,e⟩:=h
 obtain⟨fI,F⟩:=dk T k
 exact⟨p,_,dx,_,rfl,e,F.cl,F.nw,iC _ _ _ _ _ _⟩
theorem At.fa (T:Txt K mg t) (h:At t H p k l w a n r):nD K H (.ref p) "act" (.str a):=by
 obtain⟨dx,e⟩:=h
 obtain⟨fI,F⟩:=dk T k
 exact⟨p,_,dx,_,rfl,e,F.cl,F.na,iD _ _ _ _ _ _⟩
theorem At.ft (T:Txt K mg t) (h:At t H p 0 l w a n r):nD K H (.ref p) "turns" (.int n):=by
 obtain⟨dx,e⟩:=h
 obtain⟨fI,F⟩:=dk T 0
 exact⟨p,_,dx,_,rfl,e,F.cl,F.nt,sZ _ _ _ _ _⟩
theorem At.fr (T:Txt K mg t) (h:At t H p k l w a n r) (hk:k=0∨k=2∨k=3):nD K H (.ref p) "room" (.str r):=by
 obtain⟨dx,e⟩:=h
 obtain⟨fI,F⟩:=dk T k
 exact⟨p,_,dx,_,rfl,e,F.cl,F.nr,nO hk _ _ _ _ _⟩
theorem At.me (T:Txt K mg t) (h:At t H p k l w a n r) {m:Str} (hm:m∉(["label","who","act","turns","room"]:List Str)):∃dx fs,H p=some (.ins (vN t k) dx fs)∧mY K (vN t k)∧fs.lookup m=none:=by
 obtain⟨dx,e⟩:=h
 obtain⟨fI,F⟩:=dk T k
 exact⟨dx,_,e,F.cl,Zh _ _ _ _ _ _ hm⟩
end
section
variable {P:Program} {w:World} {K:PySem.W.Frag} {mg:Str→Option Value} {base:Heap} {t:ja}
theorem d2:qX ["self","label","who","act"] ["self","label","who","act"] (z5 jJ):=⟨rfl,rfl,rfl,by decide +kernel,rfl,by decide +kernel,by decide +kernel⟩
set_option maxHeartbeats 400000 in
theorem kH (T:Txt K mg t):qJ P w K mg base jO 1 t.qO t.xj ["self","label","who","act"] (ao K):=by
 refine T.ku.fn.ok d2 (fun vs H Q E h=>(by obtain⟨_,_,_,_,_,_,_,rfl,_⟩:=h;rfl)) (fun cdv A outer s H vs Q E hr h=>?_)
 obtain⟨p,C,dx,fI,l,w,a,rfl,F,hp,k⟩:=h
 refine⟨_,(z4 (kj (pv 0) (pv 1) rfl)
   (z4 (kj (pv 0) (pv 2) rfl)
   (z7 (kj (pv 0) (pv 3) rfl)))),?_⟩
 refine⟨_,rfl,_,rfl,p,C,dx,[],rfl,hp,F.cl,F.nl,(by show 0 < 1000;decide),?_⟩
 refine⟨_,rfl,_,rfl,p,C,dx,_,rfl,qg,F.cl,F.nw,(by show 1 < 1000;decide),?_⟩
 refine⟨_,rfl,_,rfl,p,C,dx,_,rfl,qg,F.cl,F.na,?_,?_⟩
 ·have:=xM ("who" : Str) (.str w) (qR "label" (.str l) [])
  have e:(qR ("label" : Str) (.str l) []).length=1:=rfl
  omega
 ·rw[wF,wF,put3]
  exact k
theorem uC:qX ["self","label","who","act","turns","room"] ["self","label","who","act","turns","room"] (z5 j6):=⟨rfl,rfl,rfl,by decide +kernel,rfl,by decide +kernel,by decide +kernel⟩
set_option maxHeartbeats 400000 in
theorem uX (T:Txt K mg t):qJ P w K mg base jO 2 t.ki t.wa ["self","label","who","act","turns","room"] (Xf K):=by
 have G_Clause_init:qJ P w K mg base jO 1 t.qO t.xj ["self","label","who","act"] (ao K):=(kH T).mono (by decide)
 refine T.fZ.fn.ok uC (fun vs H Q E h=>(by obtain⟨_,_,_,_,_,_,_,_,_,rfl,_⟩:=h;rfl)) (fun cdv A outer s H vs Q E hr h=>?_)
 obtain⟨p,C,dx,fI,l,w,a,n,r,rfl,F,hp,k⟩:=h
 refine⟨_,(z4 (jf (dN rfl T.pL T.fX G_Clause_init hr T.ku.bd .nil qW (z0 (pv 0) (z0 (pv 1) (z0 (pv 2) (z0 (pv 3) z6))))))
   (z4 (kj (pv 0) (pv 4) rfl)
   (z7 (kj (pv 0) (pv 5) rfl)))),?_⟩
 refine⟨_,rfl,_,rfl,_,rfl,_,rfl,p,C,dx,fI,l,w,a,rfl,F,hp,?_⟩
 refine⟨_,rfl,_,rfl,p,C,dx,_,rfl,qg,F.cl,F.nt,(by show 3 < 1000;decide),?_⟩
 refine⟨_,rfl,_,rfl,p,C,dx,_,rfl,qg,F.cl,F.nr,?_,?_⟩
 ·have:=xM ("turns" : Str) (.int n) (f3 l w a)
  have e:(f3 l w a).length=3:=rfl
  omega
 ·rw[wF,wF,KW]
  exact k
theorem lV:qX ["self","label","who","act","room"] ["self","label","who","act","room"] (z5 xt):=⟨rfl,rfl,rfl,by decide +kernel,rfl,by decide +kernel,by decide +kernel⟩
set_option maxHeartbeats 400000 in
theorem rO (T:Txt K mg t):qJ P w K mg base jO 2 t.kL t.yn ["self","label","who","act","room"] (ZD K):=by
 have G_Clause_init:qJ P w K mg base jO 1 t.qO t.xj ["self","label","who","act"] (ao K):=(kH T).mono (by decide)
 refine T.m9.fn.ok lV (fun vs H Q E h=>(by obtain⟨_,_,_,_,_,_,_,_,rfl,_⟩:=h;rfl)) (fun cdv A outer s H vs Q E hr h=>?_)
 obtain⟨p,C,dx,fI,l,w,a,r,rfl,F,hp,k⟩:=h
 refine⟨_,(z4 (jf (dN rfl T.pL T.fX G_Clause_init hr T.ku.bd .nil qW (z0 (pv 0) (z0 (pv 1) (z0 (pv 2) (z0 (pv 3) z6))))))
   (z7 (kj (pv 0) (pv 4) rfl))),?_⟩
 refine⟨_,rfl,_,rfl,_,rfl,_,rfl,p,C,dx,fI,l,w,a,rfl,F,hp,?_⟩
 refine⟨_,rfl,_,rfl,p,C,dx,_,rfl,qg,F.cl,F.nr,(by show 3 < 1000;decide),?_⟩
 rw[wF,J9]
 exact k
theorem cu:qX ["self","label","who","act","room"] ["self","label","who","act","room"] (z5 jU):=⟨rfl,rfl,rfl,by decide +kernel,rfl,by decide +kernel,by decide +kernel⟩
set_option maxHeartbeats 400000 in
theorem cb (T:Txt K mg t):qJ P w K mg base jO 2 t.x4 t.vW ["self","label","who","act","room"] (ZD K):=by
 have G_Clause_init:qJ P w K mg base jO 1 t.qO t.xj ["self","label","who","act"] (ao K):=(kH T).mono (by decide)
 refine T.bU.fn.ok cu (fun vs H Q E h=>(by obtain⟨_,_,_,_,_,_,_,_,rfl,_⟩:=h;rfl)) (fun cdv A outer s H vs Q E hr h=>?_)
 obtain⟨p,C,dx,fI,l,w,a,r,rfl,F,hp,k⟩:=h
 refine⟨_,(z4 (jf (dN rfl T.mN T.rQ G_Clause_init hr T.ku.bd .nil qW (z0 (pv 0) (z0 (pv 1) (z0 (pv 2) (z0 (pv 3) z6))))))
   (z7 (kj (pv 0) (pv 4) rfl))),?_⟩
 refine⟨_,rfl,_,rfl,_,rfl,_,rfl,p,C,dx,fI,l,w,a,rfl,F,hp,?_⟩
 refine⟨_,rfl,_,rfl,p,C,dx,_,rfl,qg,F.cl,F.nr,(by show 3 < 1000;decide),?_⟩
 rw[wF,J9]
 exact k
theorem yb {H:Hp} {x dx:Addr} {o o':HO} (hx:H x=none) (hdx:H dx=none) (hne:dx≠x):qx H (upd (upd (upd H dx (.own x)) x o) x o'):=by
 rw[wF]
 exact(qx.sT hdx).new (by rw[qY (Ne.symm hne)];exact hx)
end
theorem Zk:vU.length=10∧vU.cps.toList=[48,49,50,51,52,53,54,55,56,57]:=by decide +kernel
theorem ng:q9.length=26∧q9.cps.toList.length=26∧∀c∈q9.cps.toList,c < 128:=by decide +kernel
noncomputable def has (z:Str) (c:Nat):Bool:=!(Builtin.Str.occurrences z ⟨#[c]⟩ 0 z.length 1).isEmpty
noncomputable def cK (x z:Str) (m:Int):Bool:=decide (1≤x.length) && decide ((x.length:Int)≤m) && x.cps.toList.all (has z)
noncomputable def qG (x:Str):Bool:=cK x q9 8 && !mX (.str x) (ny.map V.str)
theorem rG (c:Nat):has vU c=decide (48≤c∧c≤57):=by
 unfold has
 rw[StrLaws.found_one,Zk.2]
 by_cases h:48≤c∧c≤57
 ·rw[decide_eq_true h]
  simp
  omega
 ·rw[decide_eq_false h]
  simp
  omega
noncomputable def cy (x:Str):Int:=if cK x vU 20=true∧x.cps.toList.head?≠some 48 then ((PySem.NumText.digitsVal x.cps.toList:Nat):Int) else 0
theorem sj {x:Str} {m:Int} (h:cK x vU m=true):1≤x.length∧(x.length:Int)≤m∧PySem.NumText.AllDigits x.cps.toList:=by
 unfold cK at h
 rw[Bool.and_eq_true,Bool.and_eq_true] at h
 obtain⟨⟨h1,h2⟩,h3⟩:=h
 refine⟨of_decide_eq_true h1,of_decide_eq_true h2,fun c hc=>?_⟩
 have:=List.all_eq_true.mp h3 c hc
 rw[rG] at this
 exact of_decide_eq_true this
theorem iF {x:Str} (h:1≤x.length):∃c,x.cps.toList.head?=some c∧f7 x.cps.toList 0=some c:=by
 have hl:0 < x.cps.toList.length:=by have h':1≤x.cps.size:=h;rw[Array.length_toList];omega
 cases e:x.cps.toList with
 | nil=>rw[e] at hl;simp at hl
 | cons c r=>exact⟨c,rfl,gN (xs:=c :: r) (j:=0) (v:=c) rfl⟩
section
variable {P:Program} {w:World} {K:PySem.W.Frag} {mg:Str→Option Value} {base:Heap} {t:ja}
end
local macro_rules | `(tactic| walk_at "at")=>`(tactic| first | assumption | exact At.same (by assumption) (by walk_at "sm"))
local macro_rules | `(tactic| walk_at "fld")=>`(tactic| first
 | with_reducible exact At.fl (by assumption) (by walk_at "at") | with_reducible exact At.fw (by assumption) (by walk_at "at") | with_reducible exact At.fa (by assumption) (by walk_at "at")
 | with_reducible exact At.ft (by assumption) (by walk_at "at") | with_reducible exact At.fr (by assumption) (by walk_at "at") (by first | assumption | omega))
section
variable {P:Program} {w:World} {K:PySem.W.Frag} {mg:Str→Option Value} {base:Heap} {t:ja}
end
noncomputable def JD (x p:Str):Bool:=if p = "NAME" then qG x else if p = "WHO" then qG x || decide (x = "any") else if p = "NUMBER" then decide (cy x > 0) else decide (x=p)
noncomputable def cS (ws fs:List Str):Bool:=decide (ws.length=fs.length) && (ws.zip fs).all fun p=>JD p.1 p.2
noncomputable def JX (ws:List Str) (m:Int):Bool:=decide (1≤ws.length) && decide ((ws.length:Int)≤m) && ws.all qG
theorem aP {ws:List Str} {i:Nat} (h:i < ws.length):ws.getD i ""∈ws:=by
 rw[List.getD_eq_getElem?_getD,List.getElem?_eq_getElem h]
 exact List.getElem_mem h
section
variable {P:Program} {w:World} {K:PySem.W.Frag} {mg:Str→Option Value} {base:Heap} {t:ja}
end
noncomputable def Xs (x:Str):List Str:=Txt.split x " "
theorem JY {α:Type} (f:α→V) (xs:List α) (n:Nat):wR (xs.map f) (some (n:Int)) none=(xs.drop n).map f:=by
 unfold wR
 rw[HT.wH,HT.lK,List.length_map,←List.map_drop,←List.map_take]
 by_cases h:n≤xs.length
 ·rw[Nat.min_eq_left h,List.take_of_length_le (by rw[List.length_drop];omega)]
 ·rw[Nat.min_eq_right (by omega),Nat.sub_self,List.drop_eq_nil_of_le (Nat.le_refl _),List.drop_eq_nil_of_le (by omega)]
  rfl
theorem rV {α:Type} (f:α→V) (xs:List α) (n:Nat):wR (xs.map f) none (some (n:Int))=(xs.take n).map f:=by
 unfold wR
 rw[HT.wH,HT.lK,List.length_map,List.drop_zero,Nat.sub_zero,←List.map_take]
 by_cases h:n≤xs.length
 ·rw[Nat.min_eq_left h]
 ·rw[Nat.min_eq_right (by omega),List.take_length,List.take_of_length_le (by omega)]
noncomputable def wd (ws:List Str) (i:Nat):Str:=ws.getD i ""
noncomputable def Kb:List Str:=["let","NAME","be","NAME"]
noncomputable def JF:List Str:=["part","NAME"]
noncomputable def JP:List Str:=["NAME","NAME","must","NAME","by","NUMBER","else","NAME"]
noncomputable def Qi:List Str:=["NAME","WHO","may","NAME"]
noncomputable def Kh:List Str:=["NAME","WHO","may","not","NAME","else","NAME"]
noncomputable def Qe:List Str:=["NAME","WHO","by","NAME","to","NAME"]
noncomputable def QM (ws:List Str) (x:Str) (m:Int):List Str:=if wd ws 0≠x∨JX (ws.drop 1) m=false then [] else ws.drop 1
noncomputable def Xy (ws:List Str):Option (Str × Str):=if ws.length=2∧mX (.str (wd ws 0)) (di.map V.str)=true∧qG (wd ws 1)=true then some (wd ws 0,wd ws 1) else none
noncomputable def Kr (ws:List Str):Option (Str × Str):=if cS ws Kb=true then some (wd ws 1,wd ws 3) else none
noncomputable def J7 (ws:List Str):Option (Str × List Str):=if cS (ws.take 2) JF=true then (if ws.length=2 then some (wd ws 1,[]) else if wd ws 2≠"in"∨JX (ws.drop 3) 12=false then none else some (wd ws 1,ws.drop 3)) else none
noncomputable def a8 (ws:List Str):Option (Int × Str × Str × Str × Int × Str):=
 if cS ws JP=true then some (0,wd ws 0,wd ws 1,wd ws 3,cy (wd ws 5),wd ws 7)
 else if cS ws Qi=true then some (1,wd ws 0,wd ws 1,wd ws 3,0,"")
 else if cS ws Kh=true then some (2,wd ws 0,wd ws 1,wd ws 4,0,wd ws 6)
 else if cS ws Qe=true then some (3,wd ws 0,wd ws 1,wd ws 3,0,wd ws 5)
 else none
noncomputable def Jf (n v:Str):List (Str × V):=[("name",.str n),("value",.str v)]
noncomputable def sv (n:Str) (a b:Addr):List (Str × V):=[("name",.str n),("rooms",.ref a),("rows",.ref b)]
theorem m1:¬(("name" : Str) = "value"):=by decide +kernel
theorem m2:¬(("name" : Str) = "rooms"):=by decide +kernel
theorem m3:¬(("name" : Str) = "rows"):=by decide +kernel
theorem m4:¬(("rooms" : Str) = "rows"):=by decide +kernel
theorem Xz (n v:Str):qR "value" (.str v) (qR "name" (.str n) [])=Jf n v:=by
 simp only[qR,Jf,if_neg m1]
theorem Xq (n:Str) (a b:Addr):qR "rows" (.ref b) (qR "rooms" (.ref a) (qR "name" (.str n) []))=sv n a b:=by
 simp only[qR,sv,if_neg m2,if_neg m3,if_neg m4]
noncomputable def Qg (t:ja) (H:Hp) (p:Addr) (n v:Str):Prop:=∃dx,H p=some (.ins t.vg dx (Jf n v))
noncomputable def iq (t:ja) (H0 H:Hp) (p:Addr) (n:Str) (rs:List Str) (ys:List V):Prop:=∃dx a b,H p=some (.ins t.qa dx (sv n a b))∧H a=some (.lst (rs.map V.str))∧H b=some (.lst ys)∧H0 a=none∧H0 b=none
noncomputable abbrev WN (t:ja) (H0 H:Hp) (p:Addr) (n:Str) (rs:List Str):Prop:=iq t H0 H p n rs []
theorem iq.back {t:ja} {H0 H1 H:Hp} {p:Addr} {n:Str} {rs:List Str} {ys:List V} (h:iq t H1 H p n rs ys) (s:qx H0 H1):iq t H0 H p n rs ys:=by
 obtain⟨dx,a,b,e1,e2,e3,f1,f2⟩:=h
 exact⟨dx,a,b,e1,e2,e3,s.free f1,s.free f2⟩
noncomputable def Off (p:Addr) (H H':Hp):Prop:=∀b o,b≠p→H b=some o→H' b=some o
noncomputable def Xm (t:ja):Sp:=fun vs H Q _=>∃(p dx:Addr) (n v:Str),vs=[.ref p,.str n,.str v]∧H p=some (.ins t.vg dx [])∧Q .non (upd H p (.ins t.vg dx (Jf n v)))
noncomputable def Q9 (K:PySem.W.Frag) (t:ja):Sp:=fun vs H Q _=>∃(p dx a b:Addr) (n:Str) (xs:List Str) (ys:List V),vs=[.ref p,.str n,.ref a,.ref b]∧H p=some (.ins t.qa dx [])∧H a=some (.lst (xs.map V.str))∧H b=some (.lst ys)∧
 ∀H',Off p H H'→iq t H H' p n xs ys→Q .non H'
theorem vH {H:Hp} {p dx:Addr} {o o2:HO} (hp:H p=none) (hdx:H dx=none):qx H (upd (upd H dx o) p o2):=fun b u e=>by rw[qY (qb e hp),qY (qb e hdx)];exact e
theorem yh {H H':Hp} {p dx:Addr} {o o2:HO} (hp:H p=none) (hdx:H dx=none) (f:Off p (upd (upd H dx o) p o2) H'):qx H H':=fun b u e=>f b u (qb e hp) (vH hp hdx b u e)
section
variable {P:Program} {w:World} {K:PySem.W.Frag} {mg:Str→Option Value} {base:Heap} {t:ja}
theorem lY:qX ["self","name","value"] ["self","name","value"] (z5 xo):=⟨rfl,rfl,rfl,by decide +kernel,rfl,by decide +kernel,by decide +kernel⟩
set_option maxHeartbeats 400000 in
theorem rA (T:Txt K mg t):qJ P w K mg base jO 1 t.vA t.yi ["self","name","value"] (Xm t):=by
 refine T.dq.fn.ok lY (fun vs H Q E h=>(by obtain⟨_,_,_,_,rfl,_⟩:=h;rfl)) (fun cdv A outer s H vs Q E hr h=>?_)
 obtain⟨p,dx,n,v,rfl,hp,k⟩:=h
 refine⟨_,(z4 (kj (pv 0) (pv 1) rfl)
   (z7 (kj (pv 0) (pv 2) rfl))),?_⟩
 refine⟨_,rfl,_,rfl,p,_,dx,[],rfl,hp,T.bS,T.gK,(by show 0 < 1000;decide),?_⟩
 refine⟨_,rfl,_,rfl,p,_,dx,_,rfl,qg,T.bS,T.yD,(by show 1 < 1000;decide),?_⟩
 rw[wF,Xz]
 exact k
theorem uL:qX ["self","name","rooms","rows"] ["self","name","rooms","rows"] (z5 j9):=⟨rfl,rfl,rfl,by decide +kernel,rfl,by decide +kernel,by decide +kernel⟩
set_option maxHeartbeats 400000 in
theorem fj (T:Txt K mg t):qJ P w K mg base jO 1 t.ke t.vh ["self","name","rooms","rows"] (Q9 K t):=by
 refine T.kl.fn.ok uL (fun vs H Q E h=>(by obtain⟨_,_,_,_,_,_,_,rfl,_⟩:=h;rfl)) (fun cdv A outer s H vs Q E hr h=>?_)
 obtain⟨p,dx,a,b,n,xs,ys,rfl,hp,hA,hB,k⟩:=h
 refine⟨_,(z4 (kj (pv 0) (pv 1) rfl)
   (z4 (kj (pv 0) (jH (ym (K:=K) rfl) rfl T.wU PyProof.Rows.boot_list (z0 (pv 2) z6)) rfl)
   (z7 (kj (pv 0) (jH (ym (K:=K) rfl) rfl T.wU PyProof.Rows.boot_list (z0 (pv 3) z6)) rfl)))),?_⟩
 have na:a≠p:=xU hA hp (by intro z;cases z)
 have nb:b≠p:=xU hB hp (by intro z;cases z)
 refine⟨_,rfl,_,rfl,p,_,dx,[],rfl,hp,T.xY,T.yC,(by show 0 < 1000;decide),?_⟩
 have o1:Off p H (upd H p (.ins t.qa dx (qR "name" (.str n) []))):=fun c o hc e=>by rw[qY hc];exact e
 generalize hH1:upd H p (.ins t.qa dx (qR "name" (.str n) []))=H1 at o1 ⊢
 have e1:H1 p=some (.ins t.qa dx (qR "name" (.str n) [])):=by rw[←hH1];exact qg
 refine⟨_,rfl,a,_,rfl,.inl (qC.of (o1 _ _ na hA)),?_⟩
 intro q1 H2 s2 hq1 e2
 refine⟨_,rfl,p,_,dx,_,rfl,s2 _ _ e1,T.xY,T.wI,(by show 1 < 1000;decide),?_⟩
 have nq1:q1≠p:=Ne.symm (qb e1 hq1)
 have o2:Off p H2 (upd H2 p (.ins t.qa dx (qR "rooms" (.ref q1) (qR "name" (.str n) [])))):=fun c o hc e=>by rw[qY hc];exact e
 generalize hH3:upd H2 p (.ins t.qa dx (qR "rooms" (.ref q1) (qR "name" (.str n) [])))=H3 at o2 ⊢
 have e3:H3 p=some (.ins t.qa dx (qR "rooms" (.ref q1) (qR "name" (.str n) []))):=by rw[←hH3];exact qg
 refine⟨_,rfl,b,_,rfl,.inl (qC.of (o2 _ _ nb (s2 _ _ (o1 _ _ nb hB)))),?_⟩
 intro q2 H4 s4 hq2 e4
 refine⟨_,rfl,p,_,dx,_,rfl,s4 _ _ e3,T.xY,T.yU,?_,?_⟩
 ·have:=xM ("rooms" : Str) (.ref q1) (qR "name" (.str n) [])
  have e:(qR ("name" : Str) (.str n) []).length=1:=rfl
  omega
 have nq2:q2≠p:=Ne.symm (qb e3 hq2)
 rw[Xq]
 refine k _ (fun c o hc e=>by rw[qY hc];exact s4 _ _ (o2 _ _ hc (s2 _ _ (o1 _ _ hc e)))) ⟨dx,q1,q2,qg,?_,?_,?_,?_⟩
 ·rw[qY nq1];exact s4 _ _ (o2 _ _ nq1 e2)
 ·rw[qY nq2];exact e4
 ·rw[←hH1,qY nq1] at hq1;exact hq1
 ·have z:H2 q2=none:=by rw[←hH3,qY nq2] at hq2;exact hq2
  have z1:=s2.free z
  rw[←hH1,qY nq2] at z1;exact z1
end
noncomputable def ez (rows:List Str) (i:Nat) (x:Str) (m:Int) (taken:List Str):Option (List Str):=
 if i=rows.length then none else
  let ns:=QM (Xs (wd rows i)) x m
  if ns=[]∨¬(taken ++ ns).Nodup then none else some ns
theorem QQ {z:Str} {c:Nat} (h:has z c=true):c∈z.cps.toList:=by
 unfold has at h
 rw[StrLaws.found_one] at h
 simpa using h
theorem dH {x:Str} (h:qG x=true):asc x:=fun c hc=>by
 unfold qG cK at h
 (simp only[Bool.and_eq_true] at h)
 exact ng.2.2 c (QQ (List.all_eq_true.mp h.1.2 c hc))
section
variable {P:Program} {w:World} {K:PySem.W.Frag} {mg:Str→Option Value} {base:Heap} {t:ja}
noncomputable def az (taken:List Str):List (Str × Str)→List Str→Except Nat (List (Str × Str))
 | found,[]=>if found=[] then .error 2 else .ok found
 | found,x :: r=>match Xy (Xs x) with
  | none=>if found=[] then .error 2 else .ok found
  | some mn=>if found.length=12∨¬(taken ++ (found ++ [mn]).map (·.2)).Nodup then .error (2 + found.length) else az taken (found ++ [mn]) r
noncomputable def bF (H:Hp) (v:V) (mn:Str × Str):Prop:=∃p,v=.ref p∧H p=some (.tup [.str mn.1,.str mn.2])
noncomputable def Je (mn:Str × Str):Prop:=mn.1∈di∧qG mn.2=true
noncomputable def Yz (mn:Str × Str):PyData:=.tuple [.str mn.1,.str mn.2]
theorem bF.same {H H':Hp} {v:V} {mn:Str × Str} (h:bF H v mn) (s:qx H H'):bF H' v mn:=by
 obtain⟨p,e,q⟩:=h
 exact⟨p,e,s _ _ q⟩
theorem bF.keeps {H H':Hp} {v:V} {mn:Str × Str} {l:Addr} {xs:List V} (h:bF H v mn) (k:Keeps l H H') (e:H l=some (.lst xs)):bF H' v mn:=by
 obtain⟨p,e',q⟩:=h
 exact⟨p,e',k.look q (xU q e (by intro z;cases z))⟩
theorem Paired.snoc {α β:Type} {F:α→β→Prop} {a:α} {b:β}:∀{xs:List α} {ys:List β},Paired F xs ys→F a b→Paired F (xs ++ [a]) (ys ++ [b])
 | [],[],_,h=>.cons h .nil
 | _ :: _,_ :: _,.cons h t,q=>.cons h (Paired.snoc t q)
end
inductive Rw where
 | lt (n v:Str)
 | cl (k:Int) (l u a:Str) (n:Int) (r:Str)
 | pt (n:Str) (rs:List Str) (rows:List Rw)
mutual
noncomputable def qF (t:ja) (ms:List Addr) (H:Hp):Rw→V→Prop
 | .lt n v,x=>∃p,x=.ref p∧p∉ms∧Qg t H p n v
 | .cl k l u a n r,x=>∃p,x=.ref p∧p∉ms∧At t H p k l u a n r
 | .pt n rs rows,x=>∃p dx a b ys,x=.ref p∧p∉ms∧a∉ms∧b∉ms∧H p=some (.ins t.qa dx (sv n a b))∧H a=some (.lst (rs.map V.str))∧H b=some (.lst ys)∧qt t ms H rows ys
noncomputable def qt (t:ja) (ms:List Addr) (H:Hp):List Rw→List V→Prop
 | [],ys=>ys=[]
 | r :: rs,ys=>∃y ys',ys=y :: ys'∧qF t ms H r y∧qt t ms H rs ys'
end
noncomputable def Fm (ms:List Addr) (H H':Hp):Prop:=∀b o,b∉ms→H b=some o→H' b=some o
theorem Fm.of {ms:List Addr} {H H1:Hp} (s:qx H H1):Fm ms H H1:=fun c o _ e=>s _ _ e
theorem rN {ms ms':List Addr} {H:Hp} {b:Addr} {o:HO} (hm:∀b∈ms',b∈ms∨H b=none) (h:b∉ms) (e:H b=some o):b∉ms':=fun z=>(hm b z).elim h (fun q=>by rw[e] at q;cases q)
mutual
theorem qF.move {t:ja} {ms ms':List Addr} {H H':Hp} (hk:Fm ms H H') (hm:∀b∈ms',b∈ms∨H b=none):∀{r:Rw} {x:V},qF t ms H r x→qF t ms' H' r x
 | .lt n v,x,h=>by
  unfold qF at h ⊢
  obtain⟨p,e,hp,dx,q⟩:=h
  exact⟨p,e,rN hm hp q,dx,hk _ _ hp q⟩
 | .cl k l u a n r,x,h=>by
  unfold qF at h ⊢
  obtain⟨p,e,hp,dx,q⟩:=h
  exact⟨p,e,rN hm hp q,dx,hk _ _ hp q⟩
 | .pt n rs rows,x,h=>by
  unfold qF at h ⊢
  obtain⟨p,dx,a,b,ys,e,hp,ha,hb,e1,e2,e3,q⟩:=h
  exact⟨p,dx,a,b,ys,e,rN hm hp e1,rN hm ha e2,rN hm hb e3,hk _ _ hp e1,hk _ _ ha e2,hk _ _ hb e3,qt.move hk hm q⟩
theorem qt.move {t:ja} {ms ms':List Addr} {H H':Hp} (hk:Fm ms H H') (hm:∀b∈ms',b∈ms∨H b=none):∀{rs:List Rw} {ys:List V},qt t ms H rs ys→qt t ms' H' rs ys
 | [],ys,h=>by unfold qt at h ⊢;exact h
 | r :: rs,ys,h=>by
  unfold qt at h ⊢
  obtain⟨y,ys',e,h1,h2⟩:=h
  exact⟨y,ys',e,qF.move hk hm h1,qt.move hk hm h2⟩
end
theorem qt.snoc {t:ja} {ms:List Addr} {H:Hp} {r:Rw} {y:V} (h:qF t ms H r y):∀{rs:List Rw} {ys:List V},qt t ms H rs ys→qt t ms H (rs ++ [r]) (ys ++ [y])
 | [],ys,q=>by
  unfold qt at q
  subst q
  show qt t ms H [r] [y]
  unfold qt
  exact⟨y,[],rfl,h,by unfold qt;rfl⟩
 | r' :: rs,ys,q=>by
  unfold qt at q
  obtain⟨y',ys',rfl,h1,h2⟩:=q
  show qt t ms H (r' :: (rs ++ [r])) (y' :: (ys' ++ [y]))
  unfold qt
  exact⟨y',_,rfl,h1,qt.snoc h h2⟩
theorem qt.len {t:ja} {ms:List Addr} {H:Hp}:∀{rs:List Rw} {ys:List V},qt t ms H rs ys→ys.length=rs.length
 | [],ys,q=>by unfold qt at q;rw[q];rfl
 | r' :: rs,ys,q=>by
  unfold qt at q
  obtain⟨y',ys',rfl,h1,h2⟩:=q
  rw[List.length_cons,List.length_cons,qt.len h2]
noncomputable abbrev Fr:=Str × List Str × List Rw
section
variable {P:Program} {w:World} {K:PySem.W.Frag} {mg:Str→Option Value} {base:Heap} {t:ja}
end
noncomputable def push:List Fr→Rw→List Fr
 | (n,rs,rows) :: fr,r=>(n,rs,rows ++ [r]) :: fr
 | [],_=>[]
noncomputable def XD (fr:List Fr) (ls:List Str) (x:Str):Option (List Fr × List Str):=
 if x = "done" then (match fr with
  | (n,rs,rows) :: (n2,rs2,rows2) :: fr'=>some ((n2,rs2,rows2 ++ [.pt n rs rows]) :: fr',ls)
  | _=>none)
 else match J7 (Xs x) with
  | some (n,rs)=>if fr.length=7∨n∈ls then none else some ((n,rs,[]) :: fr,ls ++ [n])
  | none=>match a8 (Xs x) with
   | some (k,l,u,a,n,r)=>if l∈ls then none else some (push fr (.cl k l u a n r),ls ++ [l])
   | none=>match Kr (Xs x) with
    | none=>none
    | some (n,v)=>some (push fr (.lt n v),ls)
section
variable {P:Program} {w:World} {K:PySem.W.Frag} {mg:Str→Option Value} {base:Heap} {t:ja}
end
noncomputable def ZA:Nat→List Str→List Fr→List Str→Except Nat (List Fr)
 | _,[],fr,_=>.ok fr
 | i,x :: r,fr,ls=>if i=90 then .error i else match XD fr ls x with
  | none=>.error i
  | some (fr',ls')=>ZA (i + 1) r fr' ls'
noncomputable def Kg (n:Nat):Except Nat (List Fr)→Except Nat Rw
 | .error i=>.error i
 | .ok [(a,b,c)]=>.ok (.pt a b c)
 | .ok _=>.error n
noncomputable def Jw (rows:List Str) (start:Nat):Except Nat Rw:=Kg rows.length (ZA start (rows.drop start) [("whole",[],[])] [])
theorem mE {H:Hp} {p:Addr} {o:HO}:Off p H (upd H p o):=fun c o' hc e=>by rw[qY hc];exact e
section
variable {P:Program} {w:World} {K:PySem.W.Frag} {mg:Str→Option Value} {base:Heap} {t:ja}
end
noncomputable def JR (a b c:Addr) (x:V):List (Str × V):=[("parties",.ref a),("acts",.ref b),("rooms",.ref c),("whole",x)]
theorem a1:¬(("parties" : Str) = "acts"):=by decide +kernel
theorem a2:¬(("parties" : Str) = "rooms"):=by decide +kernel
theorem a3:¬(("parties" : Str) = "whole"):=by decide +kernel
theorem a4:¬(("acts" : Str) = "rooms"):=by decide +kernel
theorem a5:¬(("acts" : Str) = "whole"):=by decide +kernel
theorem a6:¬(("rooms" : Str) = "whole"):=by decide +kernel
theorem Xj (a b c:Addr) (x:V):qR "whole" x (qR "rooms" (.ref c) (qR "acts" (.ref b) (qR "parties" (.ref a) [])))=JR a b c x:=by
 simp only[qR,JR,if_neg a1,if_neg a2,if_neg a3,if_neg a4,if_neg a5,if_neg a6]
noncomputable def Qj (K:PySem.W.Frag) (t:ja):Sp:=fun vs H Q _=>∃(p dx a b c:Addr) (x:V) (xs ys zs:List V),vs=[.ref p,.ref a,.ref b,.ref c,x]∧H p=some (.ins t.jF dx [])∧H a=some (.lst xs)∧H b=some (.lst ys)∧H c=some (.lst zs)∧
 ∀H' a' b' c',Off p H H'→H' p=some (.ins t.jF dx (JR a' b' c' x))→H' a'=some (.lst xs)→H' b'=some (.lst ys)→H' c'=some (.lst zs)→H a'=none→H b'=none→H c'=none→Q .non H'
noncomputable def bC (t:ja) (H:Hp) (p:Addr) (ps as:List Str) (x9:List (Str × Str)) (rw:Rw):Prop:=∃dx a b c x vs,H p=some (.ins t.jF dx (JR a b c x))∧H a=some (.lst (ps.map V.str))∧H b=some (.lst (as.map V.str))∧H c=some (.lst vs)∧Paired (bF H) vs x9∧qF t [] H rw x
theorem dM {H H':Hp} {p c:Addr} {o:HO} (f:Off p H H') (hp:H' p=some o) (hc:H' c=none):H c=none:=by
 cases e:H c with
 | none=>rfl
 | some u=>
  rw[f c u (fun z=>by rw[z,hp] at hc;cases hc) e] at hc
  cases hc
noncomputable def VW (rows:List Str):Except Nat (List Str × List Str × List (Str × Str) × Rw):=
 match ez rows 0 "parties" 4 [] with
 | none=>.error 0
 | some ps=>match ez rows 1 "acts" 6 ps with
  | none=>.error 1
  | some as=>match az (ps ++ as) [] (rows.drop 2) with
   | .error n=>.error n
   | .ok x9=>match Jw rows (2 + x9.length) with
    | .error n=>.error n
    | .ok rw=>.ok (ps,as,x9,rw)
section
variable {P:Program} {w:World} {K:PySem.W.Frag} {mg:Str→Option Value} {base:Heap} {t:ja}
theorem uR:qX ["self","parties","acts","rooms","whole"] ["self","parties","acts","rooms","whole"] (z5 j8):=⟨rfl,rfl,rfl,by decide +kernel,rfl,by decide +kernel,by decide +kernel⟩
set_option maxHeartbeats 400000 in
theorem uV (T:Txt K mg t):qJ P w K mg base jO 1 t.vf t.wZ ["self","parties","acts","rooms","whole"] (Qj K t):=by
 refine T.gT.fn.ok uR (fun vs H Q E h=>(by obtain⟨_,_,_,_,_,_,_,_,_,rfl,_⟩:=h;rfl)) (fun cdv A outer s H vs Q E hr h=>?_)
 obtain⟨p,dx,a,b,c,x,xs,ys,zs,rfl,hp,hA,hB,hC,k⟩:=h
 refine⟨_,(z4 (kj (pv 0) (jH (ym (K:=K) rfl) rfl T.wU PyProof.Rows.boot_list (z0 (pv 1) z6)) rfl)
   (z4 (kj (pv 0) (jH (ym (K:=K) rfl) rfl T.wU PyProof.Rows.boot_list (z0 (pv 2) z6)) rfl)
   (z4 (kj (pv 0) (jH (ym (K:=K) rfl) rfl T.wU PyProof.Rows.boot_list (z0 (pv 3) z6)) rfl)
   (z7 (kj (pv 0) (pv 4) rfl))))),?_⟩
 have na:a≠p:=xU hA hp (by intro z;cases z)
 have nb:b≠p:=xU hB hp (by intro z;cases z)
 have nc:c≠p:=xU hC hp (by intro z;cases z)
 refine⟨_,rfl,a,_,rfl,.inl (qC.of hA),?_⟩
 intro q1 H1 s1 hq1 e1
 refine⟨_,rfl,p,_,dx,_,rfl,s1 _ _ hp,T.gO,T.y8,(by show 0 < 1000;decide),?_⟩
 have o2:Off p H1 (upd H1 p (.ins t.jF dx (qR "parties" (.ref q1) []))):=mE
 generalize hH2:upd H1 p (.ins t.jF dx (qR "parties" (.ref q1) []))=H2 at o2 ⊢
 have e2:H2 p=some (.ins t.jF dx (qR "parties" (.ref q1) [])):=by rw[←hH2];exact qg
 refine⟨_,rfl,b,_,rfl,.inl (qC.of (o2 _ _ nb (s1 _ _ hB))),?_⟩
 intro q3 H3 s3 hq3 e3
 refine⟨_,rfl,p,_,dx,_,rfl,s3 _ _ e2,T.gO,T.pA,(by show 1 < 1000;decide),?_⟩
 have o4:Off p H3 (upd H3 p (.ins t.jF dx (qR "acts" (.ref q3) (qR "parties" (.ref q1) [])))):=mE
 generalize hH4:upd H3 p (.ins t.jF dx (qR "acts" (.ref q3) (qR "parties" (.ref q1) [])))=H4 at o4 ⊢
 have e4:H4 p=some (.ins t.jF dx (qR "acts" (.ref q3) (qR "parties" (.ref q1) []))):=by rw[←hH4];exact qg
 refine⟨_,rfl,c,_,rfl,.inl (qC.of (o4 _ _ nc (s3 _ _ (o2 _ _ nc (s1 _ _ hC))))),?_⟩
 intro q5 H5 s5 hq5 e5
 have l2:(qR ("acts" : Str) (.ref q3) (qR "parties" (.ref q1) [])).length≤2:=by
  have:=xM ("acts" : Str) (.ref q3) (qR "parties" (.ref q1) [])
  have e:(qR ("parties" : Str) (.ref q1) []).length=1:=rfl
  omega
 refine⟨_,rfl,p,_,dx,_,rfl,s5 _ _ e4,T.gO,T.bH,by omega,?_⟩
 have o6:Off p H5 (upd H5 p (.ins t.jF dx (qR "rooms" (.ref q5) (qR "acts" (.ref q3) (qR "parties" (.ref q1) []))))):=mE
 generalize hH6:upd H5 p (.ins t.jF dx (qR "rooms" (.ref q5) (qR "acts" (.ref q3) (qR "parties" (.ref q1) []))))=H6 at o6 ⊢
 have e6:H6 p=some (.ins t.jF dx (qR "rooms" (.ref q5) (qR "acts" (.ref q3) (qR "parties" (.ref q1) [])))):=by rw[←hH6];exact qg
 refine⟨_,rfl,_,rfl,p,_,dx,_,rfl,e6,T.gO,T.wO,?_,?_⟩
 ·have:=xM ("rooms" : Str) (.ref q5) (qR "acts" (.ref q3) (qR "parties" (.ref q1) []))
  omega
 have o7:Off p H6 (upd H6 p (.ins t.jF dx (qR "whole" x (qR "rooms" (.ref q5) (qR "acts" (.ref q3) (qR "parties" (.ref q1) [])))))):=mE
 rw[Xj] at o7 ⊢
 have n1:q1≠p:=Ne.symm (qb hp hq1)
 have n3:q3≠p:=Ne.symm (qb e2 hq3)
 have n5:q5≠p:=Ne.symm (qb e4 hq5)
 exact k _ q1 q3 q5 (fun d o hd e=>o7 _ _ hd (o6 _ _ hd (s5 _ _ (o4 _ _ hd (s3 _ _ (o2 _ _ hd (s1 _ _ e))))))) qg (o7 _ _ n1 (o6 _ _ n1 (s5 _ _ (o4 _ _ n1 (s3 _ _ (o2 _ _ n1 e1)))))) (o7 _ _ n3 (o6 _ _ n3 (s5 _ _ (o4 _ _ n3 e3)))) (o7 _ _ n5 (o6 _ _ n5 e5)) hq1 (s1.free (dM o2 e2 hq3)) (s1.free (dM o2 e2 (s3.free (dM o4 e4 hq5))))
end
noncomputable def lits:List Str:=["any","must","may","not","by","else","to","let","be","part","in","calm","sore","end"]
noncomputable def Rt (k:Nat) (x:Str):Prop:=(k=0∧qG x=true)∨(k=1∧qG x=false∧0 < cy x∧x∉lits)∨(k=2∧qG x=false∧cy x=0∧x∉lits)∨(3≤k∧lits[k - 3]?=some x)
noncomputable def JM (k p:Nat):Bool:=if p=100 then k == 0 else if p=101 then k == 0 || k == 3 else if p=102 then k == 1 else k == p
noncomputable def dh (ks ps:List Nat):Bool:=decide (ks.length=ps.length) && (ks.zip ps).all fun q=>JM q.1 q.2
noncomputable def W8 (p:Nat):Str:=if p=100 then "NAME" else if p=101 then "WHO" else if p=102 then "NUMBER" else lits.getD (p - 3) ""
noncomputable def J5:List Nat:=[100,100,4,100,7,102,8,100]
noncomputable def QT:List Nat:=[100,101,5,100]
noncomputable def KZ:List Nat:=[100,101,5,6,100,8,100]
noncomputable def QN:List Nat:=[100,101,7,100,9,100]
noncomputable def KQ:List Nat:=[10,100,11,100]
noncomputable def Z9:List Nat:=[12,100]
noncomputable def W7 (p:Nat):Bool:=p == 100 || p == 101 || p == 102 || (decide (3≤p) && decide (p≤16))
theorem Zc:∀x∈lits,qG x=false∧cy x=0:=by decide +kernel
theorem ui:∀c∈q9.cps.toList,¬(48≤c∧c≤57):=by decide +kernel
theorem nk (z:Str) (c:Nat):has z c=decide (c∈z.cps.toList):=StrLaws.found_one z c
theorem sx {x z:Str} {m:Int} (h:cK x z m=true):1≤x.length∧(x.length:Int)≤m∧∀c∈x.cps.toList,c∈z.cps.toList:=by
 unfold cK at h
 rw[Bool.and_eq_true,Bool.and_eq_true] at h
 obtain⟨⟨h1,h2⟩,h3⟩:=h
 refine⟨of_decide_eq_true h1,of_decide_eq_true h2,fun c hc=>?_⟩
 have:=List.all_eq_true.mp h3 c hc
 rw[nk] at this
 exact of_decide_eq_true this
theorem name_num {x:Str} (h:qG x=true):cy x=0:=by
 unfold qG at h
 rw[Bool.and_eq_true] at h
 obtain⟨h1,_,h3⟩:=sx h.1
 unfold cy
 refine if_neg fun q=>?_
 obtain⟨_,_,d3⟩:=sj q.1
 obtain⟨c,e,_⟩:=iF h1
 have hc:c∈x.cps.toList:=List.mem_of_mem_head? e
 exact ui c (h3 c hc) (d3 c hc)
noncomputable abbrev W0:List Nat→List Str→Prop:=Paired Rt
noncomputable def Ve (ks:List Nat):Bool:=dh (ks.take 2) Z9 && (ks.length == 2 || (ks.getD 2 99 == 13 && (decide (1≤(ks.drop 3).length) && decide ((ks.drop 3).length≤12) && (ks.drop 3).all (· == 0))))
noncomputable def Xg (ks:List Nat):Bool:=ks.length == 2 && (decide (14≤ks.getD 0 99) && decide (ks.getD 0 99≤16)) && ks.getD 1 99 == 0
section
variable {P:Program} {w:World} {K:PySem.W.Frag} {mg:Str→Option Value} {base:Heap} {t:ja}
end
theorem nU:(" " : Str).cps.toList=[32]:=by decide +kernel
theorem qZ (x y:Str) (r:List Str):(Str.join " " (x :: y :: r)).cps.toList=x.cps.toList ++ 32 :: (Str.join " " (y :: r)).cps.toList:=by
 rw[pF,cps_append,cps_append,nU]
 simp
structure Wk (x:Str):Prop where
 as:asc x
 nb:32∉x.cps.toList
noncomputable def sy (ws:List Str):Nat:=(ws.map (·.length)).sum + ws.length
theorem ZT (as bs:List Str):sy (as ++ bs)=sy as + sy bs:=by
 unfold sy
 rw[List.map_append,List.sum_append,List.length_append]
 omega
theorem ZN (x:Str):sy [x]=x.length + 1:=by simp [sy]
theorem tG {n:Nat}:∀{ws:List Str},(∀x∈ws,x.length≤n)→sy ws≤(n + 1) * ws.length
 | [],_=>by simp [sy]
 | x :: r,h=>by
  have h1:=h x (by simp)
  have h2:=tG (n:=n) (ws:=r) fun y hy=>h y (List.mem_cons_of_mem _ hy)
  have e:sy (x :: r)=sy [x] + sy r:=ZT [x] r
  rw[e,ZN,List.length_cons,Nat.mul_add]
  omega
theorem X2 (ws:List Str):(Txt.join " " ws).length≤sy ws:=by
 have:=iE " " ws
 have e:(" " : Str).length=1:=by decide +kernel
 rw[e] at this
 unfold sy
 omega
theorem nK (ws:List Str):(ws.map (·.length)).sum + ws.length * (" " : Str).length=sy ws:=by
 have e:(" " : Str).length=1:=by decide +kernel
 rw[e];unfold sy;omega
section
variable {P:Program} {w:World} {K:PySem.W.Frag} {mg:Str→Option Value} {base:Heap} {t:ja}
end
noncomputable def wo (c k:Int):Int:=(c % 2147483629 + 104729 * (k + 1)) % 2147483629 * ((c % 2147483629 + 104729 * (k + 1)) % 2147483629) % 2147483647 * 48271 % 2147483647 / 7
theorem sU (c k:Int):0≤wo c k∧wo c k < 306783379:=by
 unfold wo
 generalize (c % 2147483629 + 104729 * (k + 1)) % 2147483629 * ((c % 2147483629 + 104729 * (k + 1)) % 2147483629) % 2147483647 * 48271=z
 omega
noncomputable def vK (ns:List Int) (k:Int):Int:=if k < (ns.length:Int) then ns.getD k.toNat 0 % 1000000000000000000000007 else 0
theorem aA (ns:List Int) (k:Int):0≤vK ns k∧vK ns k < 1000000000000000000000007:=by
 unfold vK
 split
 ·exact⟨Int.emod_nonneg _ (by decide),Int.emod_lt_of_pos _ (by decide)⟩
 ·decide
noncomputable def tZ (K:PySem.W.Frag):Sp:=fun vs H Q _=>∃(a:Addr) (k:Int) (ns:List Int),vs=[.ref a,.int k]∧qC K H a (ns.map V.int)∧0≤k∧Q (.int (vK ns k)) H
noncomputable def lR:Sp:=fun vs H Q _=>∃(c k:Int),vs=[.int c,.int k]∧0≤k∧k≤1000∧Q (.int (wo c k)) H
noncomputable abbrev sS:Str:="fgjkqvxz"
noncomputable def iz:List Nat:=[102,103,106,107,113,118,120,122]
theorem nV:sS.length=8∧sS.cps.toList=iz:=by decide +kernel
theorem mS:q9.length=26∧q9.cps.toList.length=26:=by decide +kernel
theorem tJ:∀c∈iz,c∈q9.cps.toList:=by decide +kernel
theorem oq:∀x∈ny,∀c∈x.cps.toList,c∉iz:=by decide +kernel
noncomputable def tX (j:Int):Nat:=iz.getD j.toNat 0
theorem Zn {x:Str} (h1:1≤x.length) (h2:x.length≤8) (h3:∀c∈x.cps.toList,c∈q9.cps.toList) (h4:∃c∈x.cps.toList,c∈iz):qG x=true:=by
 unfold qG cK
 rw[decide_eq_true h1,decide_eq_true (show (x.length:Int)≤8 by omega)]
 have e:x.cps.toList.all (has q9)=true:=List.all_eq_true.mpr fun c hc=>by rw[nk];exact decide_eq_true (h3 c hc)
 rw[e,Zf]
 obtain⟨c,hc,hs⟩:=h4
 rw[decide_eq_false (fun q=>oq x q c hc hs)]
 rfl
theorem g9 {x:Str} (h:qG x=true):1≤x.length∧x.length≤8∧Wk x:=by
 unfold qG at h
 rw[Bool.and_eq_true] at h
 obtain⟨h1,h2,h3⟩:=sx h.1
 refine⟨h1,by omega,fun c hc=>ng.2.2 c (h3 c hc),fun hc=>?_⟩
 have:¬32∈q9.cps.toList:=by decide +kernel
 exact this (h3 32 hc)
noncomputable def wj:List Str:=["part","done","let","calm","sore","end","acts","any","in","else","may","not"]
theorem rH:∀x∈wj,1≤x.length∧x.length≤4∧∀c∈x.cps.toList,c∈q9.cps.toList:=by decide +kernel
noncomputable def cz (c:Int):Int:=2 + c / 81 % (7 - (if c % 3=1 then 1 else 0))
noncomputable def oE (c:Int):Int:=c / 500 % cz c
noncomputable def Vs (c:Int):Nat:=(wj.getD (c / 12 % 12).toNat "").length
theorem lL (c:Int):2≤cz c∧cz c≤8∧(c % 3=1→cz c≤7):=by
 unfold cz
 by_cases h:c % 3=1
 ·rw[if_pos h]
  omega
 ·rw[if_neg h]
  omega
noncomputable def aR (c:Int):Int:=(oE c + 1 + c / 3600 % (cz c - 1)) % cz c
theorem tR (c:Int):0≤oE c∧oE c < cz c:=by
 have h:=(lL c).1
 exact⟨Int.emod_nonneg _ (by omega),Int.emod_lt_of_pos _ (by omega)⟩
theorem eV (c:Int):0≤aR c∧aR c < cz c∧aR c≠oE c:=by
 have h:=(lL c).1
 have ha:=tR c
 have r0:0≤c / 3600 % (cz c - 1):=Int.emod_nonneg _ (by omega)
 have r1:c / 3600 % (cz c - 1) < cz c - 1:=Int.emod_lt_of_pos _ (by omega)
 refine⟨Int.emod_nonneg _ (by omega),Int.emod_lt_of_pos _ (by omega),?_⟩
 unfold aR
 generalize c / 3600 % (cz c - 1)=r at *
 generalize cz c=z at *
 generalize oE c=a at *
 by_cases q:a + 1 + r < z
 ·rw[Int.emod_eq_of_lt (by omega) q]
  omega
 ·have e:a + 1 + r=(a + 1 + r - z) + z:=by omega
  rw[e,Int.add_emod_right,Int.emod_eq_of_lt (by omega) (by omega)]
  omega
theorem oY (b:Bool):(0:Int) < 7 - (if b=true then 1 else 0):=by cases b<;>decide
theorem Xn (c:Int):(2 + c / 81 % (7 - (if decide (V.int (c % 3)=V.int 1)=true then (1:Int) else 0)))=cz c:=by
 unfold cz
 by_cases q:c % 3=1
 ·rw[if_pos q,if_pos (by rw[q];exact decide_eq_true rfl)]
 ·rw[if_neg q,if_neg (fun h=>q (by have:=of_decide_eq_true h;injection this))]
noncomputable def dZ (j:Int):Nat:=q9.cps.toList.getD (j % 26).toNat 0
noncomputable def aC (c k:Int) (j:Nat):Nat:=if (j:Int)=aR c then dZ (k / 8 + c / 7) else if (j:Int)=oE c then tX (k % 8) else dZ (wo c j)
noncomputable def bL (c k:Int):List Nat:=(List.range (cz c).toNat).map (aC c k)
noncomputable def dP (c k:Int):List Nat:=if c % 12=5∧k < 8 then [tX (k % 8)] else if c % 12=7 then (wj.getD (c / 12 % 12).toNat "").cps.toList ++ [tX (k % 8),dZ (k / 8)] else if c % 3=1∧k % 2=1 then bL c (k - 1) ++ [dZ (c / 3)] else bL c k
noncomputable def ka (c k:Int):Str:=⟨(dP c k).toArray⟩
theorem hZ (c k:Int):(ka c k).cps.toList=dP c k:=rfl
noncomputable def nY:Sp:=fun vs H Q _=>∃(c k:Int),vs=[.int c,.int k]∧0≤c∧c < 1000000000∧0≤k∧k < 208∧∀H',qx H H'→Q (.str (ka c k)) H'
theorem yT (k:Int):tX (k % 8)∈iz:=by
 unfold tX
 have h0:0≤k % 8:=Int.emod_nonneg _ (by omega)
 have h1:k % 8 < 8:=Int.emod_lt_of_pos _ (by omega)
 have hj:(k % 8).toNat < iz.length:=by show (k % 8).toNat < 8;omega
 rw[List.getD_eq_getElem?_getD,List.getElem?_eq_getElem hj]
 exact List.getElem_mem hj
theorem mT (k:Int):q9.cps.toList.getD (k % 26).toNat 0∈q9.cps.toList:=by
 have h0:0≤k % 26:=Int.emod_nonneg _ (by omega)
 have h1:k % 26 < 26:=Int.emod_lt_of_pos _ (by omega)
 have hj:(k % 26).toNat < q9.cps.toList.length:=by rw[mS.2];omega
 rw[List.getD_eq_getElem?_getD,List.getElem?_eq_getElem hj]
 exact List.getElem_mem hj
noncomputable def LS (x:Str):Prop:=∀c∈x.cps.toList,c∈q9.cps.toList
noncomputable def XM (c k k':Int) (tl:Str):Prop:=(c % 3=1∧k % 2=1∧k'=k - 1∧tl.cps.toList=[dZ (c / 3)])∨(¬(c % 3=1∧k % 2=1)∧k'=k∧tl = "")
theorem cN {a b:Int} (h:decide (V.int a=V.int b)=true):a=b:=by have:=of_decide_eq_true h;injection this
theorem cO {a b:Int} (h:a=b):decide (V.int a=V.int b)=true:=by subst h;exact decide_eq_true rfl
section
variable {P:Program} {w:World} {K:PySem.W.Frag} {mg:Str→Option Value} {base:Heap} {t:ja}
theorem uS:qX ["_law_script","_law_k"] ["_law_script","_law_k"] (z5 xq):=⟨rfl,rfl,rfl,by decide +kernel,rfl,by decide +kernel,by decide +kernel⟩
set_option maxHeartbeats 400000 in
theorem fg (T:Txt K mg t):qJ P w K mg base jO 1 t.vm t.vp ["_law_script","_law_k"] (tZ K):=by
 refine T.jg.fn.ok uS (fun vs H Q E h=>(by obtain⟨_,_,_,rfl,_⟩:=h;rfl)) (fun cdv A outer s H vs Q E hr h=>?_)
 obtain⟨a,k,ns,rfl,hA,k0,kk⟩:=h
 refine⟨_,(z4 (qN (qu lQ (pv 1) (qU (xI (K:=K) rfl) rfl T.bh PySem.boot_len (z0 (pv 0) z6)) (qi _))
    (z7 (qr (qk jz (qv (qQ (K:=K) rfl) (pv 0) (pv 1) (fun _ _=>rfl)) z3))) qo)
   (z7 (qr z3))),?_⟩
 refine⟨_,rfl,_,rfl,a,_,rfl,.inl hA,_,_,rfl,rfl,_,rfl,?_⟩
 rw[List.length_map]
 refine kD (fun h1=>?_) (fun h1=>?_)
 ·have h1':=of_decide_eq_true h1
  rw[show vK ns k=ns.getD k.toNat 0 % 1000000000000000000000007 from if_pos h1'] at kk
  walk_at "rd"
  exact kk
 ·have h1':¬k < (ns.length:Int):=fun q=>h1 (decide_eq_true q)
  rw[show vK ns k=0 from if_neg h1'] at kk
  walk_at "rd"
  exact kk
theorem lM:qX ["_law_cell","_law_k","_law_number"] ["_law_cell","_law_k"] (z5 vP):=⟨rfl,rfl,rfl,by decide +kernel,rfl,by decide +kernel,by decide +kernel⟩
set_option maxHeartbeats 400000 in
theorem fh (T:Txt K mg t):qJ P w K mg base jO 1 t.yH t.yJ ["_law_cell","_law_k"] lR:=by
 refine T.jT.fn.ok lM (fun vs H Q E h=>(by obtain⟨_,_,rfl,_⟩:=h;rfl)) (fun cdv A outer s H vs Q E hr h=>?_)
 obtain⟨c,k,rfl,k0,k1,kk⟩:=h
 refine⟨_,(z4 (ql (i:=2) lM.nd rfl (Or.inl rfl) (qk jz (qk xf (qk jz (pv 0) z3) (qk dR z3 (qk xf (pv 1) z3))) z3))
   (z7 (qr (qk kB (qk jz (qk dR (qk jz (qk dR (pv 2) (pv 2)) z3) z3) z3) z3)))),?_⟩
 walk_at "rd"
 exact kk
theorem jQ:qX ["_law_cell","_law_k","_law_letters","_law_heads","_law_tail","_law_size","_law_at","_law_other","_law_name_here","_law_j","_law_letter"] ["_law_cell","_law_k"] (z5 kP):=⟨rfl,rfl,rfl,by decide +kernel,rfl,by decide +kernel,by decide +kernel⟩
set_option maxHeartbeats 400000 in
theorem oa (T:Txt K mg t):qJ P w K mg base jO 2 t.pW t.pX ["_law_cell","_law_k"] nY:=by
 have G_w_mix:qJ P w K mg base jO 1 t.yH t.yJ ["_law_cell","_law_k"] lR:=(fh T).mono (by decide)
 refine T.d7.fn.ok jQ (fun vs H Q E h=>(by obtain⟨_,_,rfl,_⟩:=h;rfl)) (fun cdv A outer s H vs Q E hr h=>?_)
 obtain⟨c,k,rfl,c0,c1,k0,k1,kk⟩:=h
 refine⟨_,(z4 (ql (i:=2) jQ.nd rfl (Or.inl rfl) z8)
   (z4 (PS.join (qN (PW.pt (dA (qu jo (qk jz (pv 0) z3) z3 (qi _)) (ff (qu lQ (pv 1) z3 (qi _)))))
    (z7 (qr (qv bI z8 (pv 1) (fun _ _=>rfl)))) qo))
   (z4 (qN (qu jo (qk jz (pv 0) z3) z3 (qi _))
    (z4 (ql (i:=3) jQ.nd rfl (Or.inl rfl) (qD (z0 z8 (z0 z8 (z0 z8 (z0 z8 (z0 z8 (z0 z8 (z0 z8 (z0 z8 (z0 z8 (z0 z8 (z0 z8 (z0 z8 z6))))))))))))) vw)
   (z7 (qr (qk qf (qk qf (qv (qQ (K:=K) rfl) (pv 3) (qk jz (qk kB (pv 0) z3) z3) (fun _ _=>rfl)) (qv bI z8 (qk jz (pv 1) z3) (fun _ _=>rfl))) (qv bI (pv 2) (qk jz (qk kB (pv 1) z3) z3) (fun _ _=>rfl)))))) qo)
   (z4 (ql (i:=4) jQ.nd rfl (Or.inl rfl) z8)
   (z4 (PS.join (qN (PW.pt (dA (qu jo (qk jz (pv 0) z3) z3 (qi _)) (ff (qu jo (qk jz (pv 1) z3) z3 (qi _)))))
    (z4 (ql (i:=4) jQ.nd rfl (Or.inl rfl) (qv bI (pv 2) (qk jz (qk kB (pv 0) z3) z3) (fun _ _=>rfl)))
   (z7 (ql (i:=1) jQ.nd rfl (Or.inl rfl) (qk b9 (pv 1) z3)))) qo))
   (z4 (ql (i:=5) jQ.nd rfl (Or.inl rfl) (qk xf z3 (qk jz (qk kB (pv 0) z3) (qk b9 z3 (jH vD rfl T.pQ PyProof.Rows.boot_int (z0 (vB jo (qk jz (pv 0) z3) z3 (qi _)) z6))))))
   (z4 (ql (i:=6) jQ.nd rfl (Or.inl rfl) (qk jz (qk kB (pv 0) z3) (pv 5)))
   (z4 (ql (i:=7) jQ.nd rfl (Or.inl rfl) (qk jz (qk xf (qk xf (pv 6) z3) (qk jz (qk kB (pv 0) z3) (qk b9 (pv 5) z3))) (pv 5)))
   (z4 (ql (i:=8) jQ.nd rfl (Or.inl rfl) z8)
   (z4 (kI PassesOwn.never rfl (kO rfl T.we (z0 (pv 5) z6)) (jn (i:=9) jQ.nd rfl (Or.inl rfl))
    (z4 (ql (i:=10) jQ.nd rfl (Or.inl rfl) (qv bI (pv 2) (qk jz (qe G_w_mix hr rfl T.jT.mg T.jT.fn.kp T.jT.bd .nil qW (z0 (pv 0) (z0 (pv 9) z6))) z3) (fun _ _=>rfl)))
   (z4 (PS.join (qN (qu jo (pv 9) (pv 6) (qi _))
    (z7 (ql (i:=10) jQ.nd rfl (Or.inl rfl) (qv bI z8 (qk jz (pv 1) z3) (fun _ _=>rfl)))) qo))
   (z4 (PS.join (qN (qu jo (pv 9) (pv 7) (qi _))
    (z7 (ql (i:=10) jQ.nd rfl (Or.inl rfl) (qv bI (pv 2) (qk jz (qk xf (qk kB (pv 1) z3) (qk kB (pv 0) z3)) z3) (fun _ _=>rfl)))) qo))
   (z7 (ql (i:=8) jQ.nd rfl (Or.inl rfl) (qk qf (pv 8) (pv 10))))))))
   (z7 (qr (qk qf (pv 8) (pv 4)))))))))))))),?_⟩
 have hs:(Str.ofString "fgjkqvxz").length=8:=nV.1
 have hl:(Str.ofString "abcdefghijklmnopqrstuvwxyz").length=26:=mS.1
 have k8:0≤k % 8:=Int.emod_nonneg _ (by decide)
 have k8':k % 8 < 8:=Int.emod_lt_of_pos _ (by decide)
 walk_at "rd"
 refine⟨fun σ' H'=>(σ'=[some (.int c),some (.int k),some (.str (Str.ofString "abcdefghijklmnopqrstuvwxyz")),none,none,none,none,none,none,none,none]∧H'=H∧¬(c % 12=5∧k < 8))∨False,?_,?_⟩
 ·walk_at "rd"
  refine kD (fun h1=>?_) (fun h1=>.inl ⟨rfl,rfl,fun q=>h1 (cO q.1)⟩)
  walk_at "rd"
  refine kD (fun h2=>?_) (fun h2=>.inl ⟨rfl,rfl,fun q=>h2 (decide_eq_true q.2)⟩)
  have h2':k < 8:=of_decide_eq_true h2
  walk_at "rd"
  have em:(⟨#[(Str.ofString "fgjkqvxz").cps.toList.getD k.toNat 0]⟩:Str)=ka c k:=by
   refine vM ?_
   rw[hZ]
   unfold dP
   rw[if_pos ⟨cN h1,h2'⟩,show (Str.ofString "fgjkqvxz").cps.toList=iz from nV.2,show k % 8=k by omega]
   rfl
  rw[em]
  exact kk _ (qx.refl _)
 intro σ' H' q
 obtain⟨rfl,rfl,hA⟩:=q.resolve_right fun z=>z
 walk_at "rd"
 refine kD (fun h1=>?_) (fun h1=>?_)
 ·have e7:c % 12=7:=cN h1
  walk_at "rd"
  intro lh H1 s1 hlh e1
  have e2:H1 lh=some (.lst (wj.map V.str)):=e1
  clear e1
  have hk:wj.length=12:=rfl
  have b0:0≤c / 12 % 12:=Int.emod_nonneg _ (by decide)
  have b1:c / 12 % 12 < 12:=Int.emod_lt_of_pos _ (by decide)
  have b2:0≤k / 8 % 26:=Int.emod_nonneg _ (by decide)
  have b3:k / 8 % 26 < 26:=Int.emod_lt_of_pos _ (by decide)
  obtain⟨g1,g2,g3⟩:=rH _ (aP (ws:=wj) (i:=(c / 12 % 12).toNat) (by omega))
  walk_at "rd"
  rw[show (wj.getD (c / 12 % 12).toNat (Str.ofString "") ++ (⟨#[(Str.ofString "fgjkqvxz").cps.toList.getD (k % 8).toNat 0]⟩:Str) ++ (⟨#[(Str.ofString "abcdefghijklmnopqrstuvwxyz").cps.toList.getD (k / 8 % 26).toNat 0]⟩:Str))=ka c k from by
   refine vM ?_
   rw[cps_append,cps_append,hZ]
   unfold dP
   rw[if_neg hA,if_pos e7,List.append_assoc,show (Str.ofString "fgjkqvxz").cps.toList=iz from nV.2]
   rfl]
  exact kk H1 (by walk_at "sm")
 have n7:¬c % 12=7:=fun q=>h1 (cO q)
 walk_at "rd"
 refine⟨fun σ' H2=>(∃(tl:Str) (k':Int),σ'=[some (.int c),some (.int k'),some (.str (Str.ofString "abcdefghijklmnopqrstuvwxyz")),none,some (.str tl),none,none,none,none,none,none]∧H2=H'∧XM c k k' tl)∨False,?_,?_⟩
 ·walk_at "rd"
  refine kD (fun h2=>?_) (fun h2=>.inl ⟨_,_,rfl,rfl,.inr ⟨fun q=>h2 (cO q.1),rfl,rfl⟩⟩)
  walk_at "rd"
  refine kD (fun h3=>?_) (fun h3=>.inl ⟨_,_,rfl,rfl,.inr ⟨fun q=>h3 (cO q.2),rfl,rfl⟩⟩)
  have b2:0≤c / 3 % 26:=Int.emod_nonneg _ (by decide)
  have b3:c / 3 % 26 < 26:=Int.emod_lt_of_pos _ (by decide)
  walk_at "rd"
  exact .inl ⟨_,_,rfl,rfl,.inl ⟨cN h2,cN h3,rfl,rfl⟩⟩
 intro σ' H2 q
 obtain⟨tl,k',rfl,rfl,hT⟩:=q.resolve_right fun z=>z
 clear q
 have z1:=lL c
 have a1:=tR c
 have o1:=eV c
 have k'0:0≤k'∧k' < 208:=by rcases hT with ⟨_,_,e,_⟩ | ⟨_,e,_⟩<;>omega
 walk_at "rd"
 refine .inr ⟨_,rfl,_,_,rfl,rfl,_,_,rfl,rfl,oY _,_,_,rfl,rfl,?_⟩
 show kY 5 (V.int (2 + c / 81 % (7 - (if decide (V.int (c % 3)=V.int 1)=true then (1:Int) else 0)))) _ _ _
 rw[Xn c]
 walk_at "rd"
 refine fW (lo:=0) (n:=(cz c).toNat) (fun i σ H3=>∃(x:Str) (v9 v10:Option V),σ=[some (.int c),some (.int k'),some (.str (Str.ofString "abcdefghijklmnopqrstuvwxyz")),none,some (.str tl),some (.int (cz c)),some (.int (oE c)),some (.int (aR c)),some (.str x),v9,v10]∧H3=H2∧x.cps.toList=(List.range i).map (aC c k')∧(i=i∨False))
  ⟨"",none,none,rfl,rfl,(show ("" : Str).cps.toList=[] from by decide +kernel),.inl rfl⟩ ?_ ?_
 ·rintro i σ H3 hi ⟨x,v9,v10,rfl,rfl,hx,_⟩
  have k'8:0≤k' % 8:=Int.emod_nonneg _ (by decide)
  have k'8':k' % 8 < 8:=Int.emod_lt_of_pos _ (by decide)
  have em:(Str.ofString "fgjkqvxz").cps.toList.getD (k' % 8).toNat 0=tX (k' % 8):=by
   rw[show (Str.ofString "fgjkqvxz").cps.toList=iz from nV.2];rfl
  have b0:0≤(k' / 8 + c / 7) % 26:=Int.emod_nonneg _ (by decide)
  have b1:(k' / 8 + c / 7) % 26 < 26:=Int.emod_lt_of_pos _ (by decide)
  have bm:=sU c (0 + (i:Int))
  walk_at "rd"
  refine⟨fun σ' H'=>(∃ch:Nat,σ'=[some (.int c),some (.int k'),some (.str (Str.ofString "abcdefghijklmnopqrstuvwxyz")),none,some (.str tl),some (.int (cz c)),some (.int (oE c)),some (.int (aR c)),some (.str x),some (.int (0 + (i:Int))),some (.str ⟨#[ch]⟩)]∧H'=H3∧ch=(if (i:Int)=oE c then tX (k' % 8) else dZ (wo c i)))∨False,?_,?_⟩
  ·walk_at "rd"
   refine kD (fun h2=>?_) (fun h2=>.inl ⟨_,rfl,rfl,?_⟩)
   ·have h2':=cN h2
    walk_at "rd"
    exact .inl ⟨_,rfl,rfl,by rw[if_pos (by omega)];exact em⟩
   ·rw[if_neg (fun q=>h2 (cO (by omega))),Int.zero_add]
    rfl
  intro σ' H' q
  obtain⟨ch,rfl,rfl,m1⟩:=q.resolve_right fun z=>z
  clear q
  refine⟨fun σ' H3=>(∃ch:Nat,σ'=[some (.int c),some (.int k'),some (.str (Str.ofString "abcdefghijklmnopqrstuvwxyz")),none,some (.str tl),some (.int (cz c)),some (.int (oE c)),some (.int (aR c)),some (.str x),some (.int (0 + (i:Int))),some (.str ⟨#[ch]⟩)]∧H3=H'∧ch=aC c k' i)∨False,?_,?_⟩
  ·walk_at "rd"
   refine kD (fun h2=>?_) (fun h2=>.inl ⟨_,rfl,rfl,?_⟩)
   ·have h2':=cN h2
    walk_at "rd"
    exact .inl ⟨_,rfl,rfl,by unfold aC;rw[if_pos (by omega)];rfl⟩
   ·unfold aC
    rw[if_neg (fun q=>h2 (cO (by omega)))]
    exact m1
  intro σ' H3 q
  obtain⟨ch,rfl,rfl,m1⟩:=q.resolve_right fun z=>z
  clear q
  have hx9:x.length≤8:=by
   have:=congrArg List.length hx
   rw[List.length_map,List.length_range] at this
   (have e:x.cps.toList.length=x.length:=by simp [Str.length])
   omega
  walk_at "rd"
  refine⟨?_,.inl rfl⟩
  rw[cps_append,hx,List.range_succ,List.map_append,m1]
  rfl
 ·rintro σ H3 ⟨x,v9,v10,rfl,rfl,hx,_⟩
  have e:x ++ tl=ka c k:=by
   refine vM ?_
   rw[cps_append,hZ]
   unfold dP
   rw[if_neg hA,if_neg n7]
   rcases hT with ⟨e1,e2,e3,e4⟩ | ⟨e1,e2,e3⟩
   ·rw[if_pos ⟨e1,e2⟩,e4,hx,e3];rfl
   ·rw[if_neg e1,e3,hx,e2,show ("" : Str).cps.toList=[] from by decide +kernel,List.append_nil];rfl
  have hx9:x.length≤8:=by
   have:=congrArg List.length hx
   rw[List.length_map,List.length_range] at this
   (have e:x.cps.toList.length=x.length:=by simp [Str.length])
   omega
  have hT9:tl.length≤1:=by
   rcases hT with ⟨_,_,_,e⟩ | ⟨_,_,e⟩
   ·have:=congrArg List.length e
    have e':tl.cps.toList.length=tl.length:=by simp [Str.length]
    rw[e'] at this;simp only[List.length_cons,List.length_nil] at this;omega
   ·rw[e];decide +kernel
  walk_at "rd"
  rw[e]
  exact kk _ (qx.refl _)
end
theorem Ku:q9.cps.toList.Nodup:=by decide +kernel
theorem Wa:iz.Nodup:=by decide +kernel
theorem getD_inj {L:List Nat} (h:L.Nodup) {i j:Nat} (hi:i < L.length) (hj:j < L.length) (e:L.getD i 0=L.getD j 0):i=j:=by
 rw[List.getD_eq_getElem?_getD,List.getD_eq_getElem?_getD,List.getElem?_eq_getElem hi,List.getElem?_eq_getElem hj] at e
 have e':L[i]=L[j]:=e
 have hp:=List.nodup_iff_pairwise_ne.mp h
 rcases Nat.lt_trichotomy i j with q | q | q
 ·exact absurd e' (List.pairwise_iff_getElem.mp hp i j hi hj q)
 ·exact q
 ·exact absurd e'.symm (List.pairwise_iff_getElem.mp hp j i hj hi q)
theorem rF {a b:Int} (e:dZ a=dZ b):a % 26=b % 26:=by
 have a0:0≤a % 26:=Int.emod_nonneg _ (by decide)
 have a1:a % 26 < 26:=Int.emod_lt_of_pos _ (by decide)
 have b0:0≤b % 26:=Int.emod_nonneg _ (by decide)
 have b1:b % 26 < 26:=Int.emod_lt_of_pos _ (by decide)
 have:=getD_inj Ku (i:=(a % 26).toNat) (j:=(b % 26).toNat) (by rw[mS.2];omega) (by rw[mS.2];omega) e
 omega
theorem uN {a b:Int} (e:tX (a % 8)=tX (b % 8)):a % 8=b % 8:=by
 have a0:0≤a % 8:=Int.emod_nonneg _ (by decide)
 have a1:a % 8 < 8:=Int.emod_lt_of_pos _ (by decide)
 have b0:0≤b % 8:=Int.emod_nonneg _ (by decide)
 have b1:b % 8 < 8:=Int.emod_lt_of_pos _ (by decide)
 have:=getD_inj Wa (i:=(a % 8).toNat) (j:=(b % 8).toNat) (by show _ < 8;omega) (by show _ < 8;omega) e
 omega
theorem vz (c k:Int):(bL c k).length=(cz c).toNat:=by unfold bL;rw[List.length_map,List.length_range]
theorem uy (c k:Int):(bL c k)[(oE c).toNat]?=some (tX (k % 8)):=by
 have a1:=tR c
 have o1:=eV c
 unfold bL
 rw[List.getElem?_map,List.getElem?_range (by omega)]
 show some (aC c k (oE c).toNat)=_
 unfold aC
 rw[if_neg (by omega),if_pos (by omega)]
theorem ir (c k:Int):(bL c k)[(aR c).toNat]?=some (dZ (k / 8 + c / 7)):=by
 have o1:=eV c
 unfold bL
 rw[List.getElem?_map,List.getElem?_range (by omega)]
 show some (aC c k (aR c).toNat)=_
 unfold aC
 rw[if_pos (by omega)]
theorem tS (c k:Int):∀x∈bL c k,x∈q9.cps.toList:=by
 intro x hx
 unfold bL at hx
 obtain⟨j,_,rfl⟩:=List.mem_map.mp hx
 unfold aC
 split
 ·exact mT _
 ·split
  ·exact tJ _ (yT k)
  ·exact mT _
theorem mH {c k1 k2:Int} (h1:0≤k1∧k1 < 208) (h2:0≤k2∧k2 < 208) (e:bL c k1=bL c k2):k1=k2:=by
 have e1:=uy c k1
 rw[e,uy c k2] at e1
 have e2:=ir c k1
 rw[e,ir c k2] at e2
 have f1:=uN (Option.some.inj e1)
 have f2:=rF (Option.some.inj e2)
 omega
theorem md (c:Int) {k:Int}:qG (ka c k)=true:=by
 have z1:=lL c
 have a1:=tR c
 have len:(ka c k).length=(dP c k).length:=by rw[←hZ];simp [Str.length]
 have key:1≤(dP c k).length∧(dP c k).length≤8∧(∀x∈dP c k,x∈q9.cps.toList)∧∃x∈dP c k,x∈iz:=by
  unfold dP
  split
  ·exact⟨by simp,by simp,fun x hx=>by rw[List.mem_singleton.mp hx];exact tJ _ (yT k),_,List.mem_singleton.mpr rfl,yT k⟩
  ·split
   ·have b0:0≤c / 12 % 12:=Int.emod_nonneg _ (by decide)
    have b1:c / 12 % 12 < 12:=Int.emod_lt_of_pos _ (by decide)
    obtain⟨g1,g2,g3⟩:=rH _ (aP (ws:=wj) (i:=(c / 12 % 12).toNat) (by show _ < 12;omega))
    have e:(wj.getD (c / 12 % 12).toNat "").cps.toList.length=(wj.getD (c / 12 % 12).toNat "").length:=by simp [Str.length]
    refine⟨by rw[List.length_append];simp only[List.length_cons,List.length_nil];omega,by rw[List.length_append];simp only[List.length_cons,List.length_nil];omega,fun x hx=>?_,tX (k % 8),by simp,yT k⟩
    (rcases List.mem_append.mp hx with hx | hx)
    ·exact g3 x hx
    ·simp only[List.mem_cons,List.not_mem_nil,or_false] at hx
     rcases hx with rfl | rfl
     ·exact tJ _ (yT k)
     ·exact mT _
   ·split
    ·rename_i h
     have:=z1.2.2 h.1
     refine⟨by rw[List.length_append,vz];simp only[List.length_cons,List.length_nil];omega,by rw[List.length_append,vz];simp only[List.length_cons,List.length_nil];omega,fun x hx=>?_,tX ((k - 1) % 8),List.mem_append_left _ (List.mem_of_getElem? (uy c (k - 1))),yT _⟩
     (rcases List.mem_append.mp hx with hx | hx)
     ·exact tS _ _ x hx
     ·rw[List.mem_singleton.mp hx];exact mT _
    ·exact⟨by rw[vz];omega,by rw[vz];omega,tS c k,tX (k % 8),List.mem_of_getElem? (uy c k),yT k⟩
 exact Zn (by rw[len];exact key.1) (by rw[len];exact key.2.1) key.2.2.1 key.2.2.2
theorem Zi {c k:Int} (h:c % 12=5) (q:k < 8):dP c k=[tX (k % 8)]:=by unfold dP;rw[if_pos ⟨h,q⟩]
theorem ni {c k:Int} (h:c % 12=5) (q:¬k < 8):dP c k=bL c k:=by unfold dP;rw[if_neg (fun z=>q z.2),if_neg (by omega),if_neg (by omega)]
theorem J1 {c k:Int} (h:c % 12=7):dP c k=(wj.getD (c / 12 % 12).toNat "").cps.toList ++ [tX (k % 8),dZ (k / 8)]:=by unfold dP;rw[if_neg (by omega),if_pos h]
theorem Zo {c k:Int} (h:¬c % 12=5) (h7:¬c % 12=7) (h3:c % 3=1) (q:k % 2=1):dP c k=bL c (k - 1) ++ [dZ (c / 3)]:=by unfold dP;rw[if_neg (fun z=>h z.1),if_neg h7,if_pos ⟨h3,q⟩]
theorem om {c k:Int} (h:¬c % 12=5) (h7:¬c % 12=7) (q:¬(c % 3=1∧k % 2=1)):dP c k=bL c k:=by unfold dP;rw[if_neg (fun z=>h z.1),if_neg h7,if_neg q]
theorem eg {c k1 k2:Int} (h1:0≤k1∧k1 < 208) (h2:0≤k2∧k2 < 208) (e:ka c k1=ka c k2):k1=k2:=by
 have e':dP c k1=dP c k2:=by rw[←hZ,←hZ,e]
 have z1:=lL c
 have el:=congrArg List.length e'
 by_cases c5:c % 12=5
 ·by_cases q1:k1 < 8<;>by_cases q2:k2 < 8
  ·rw[Zi c5 q1,Zi c5 q2] at e'
   have:=uN (List.cons.inj e').1
   omega
  ·rw[Zi c5 q1,ni c5 q2,vz] at el
   simp only[List.length_cons,List.length_nil] at el
   omega
  ·rw[ni c5 q1,Zi c5 q2,vz] at el
   simp only[List.length_cons,List.length_nil] at el
   omega
  ·rw[ni c5 q1,ni c5 q2] at e'
   exact mH h1 h2 e'
 by_cases c7:c % 12=7
 ·rw[J1 c7,J1 c7] at e'
  have:=List.append_cancel_left e'
  obtain⟨f1,f2⟩:=List.cons.inj this
  have g1:=uN f1
  have g2:=rF (List.cons.inj f2).1
  omega
 by_cases c3:c % 3=1
 ·by_cases q1:k1 % 2=1<;>by_cases q2:k2 % 2=1
  ·rw[Zo c5 c7 c3 q1,Zo c5 c7 c3 q2] at e'
   have:=mH (by omega) (by omega) (List.append_cancel_right e')
   omega
  ·rw[Zo c5 c7 c3 q1,om c5 c7 (fun z=>q2 z.2),List.length_append,vz,vz] at el
   simp only[List.length_cons,List.length_nil] at el
   omega
  ·rw[om c5 c7 (fun z=>q1 z.2),Zo c5 c7 c3 q2,List.length_append,vz,vz] at el
   simp only[List.length_cons,List.length_nil] at el
   omega
  ·rw[om c5 c7 (fun z=>q1 z.2),om c5 c7 (fun z=>q2 z.2)] at e'
   exact mH h1 h2 e'
 ·rw[om c5 c7 (fun z=>c3 z.1),om c5 c7 (fun z=>c3 z.1)] at e'
  exact mH h1 h2 e'
section
variable {P:Program} {w:World} {K:PySem.W.Frag} {mg:Str→Option Value} {base:Heap} {t:ja}
end
noncomputable def Q8 (ws:List Str):Str:=Txt.join " " ws
theorem gP {fr:List Fr} {r:Rw}:(push fr r).length=fr.length:=by
 cases fr with
 | nil=>rfl
 | cons f fr=>obtain⟨a,b,c⟩:=f;rfl
section
variable {P:Program} {w:World} {K:PySem.W.Frag} {mg:Str→Option Value} {base:Heap} {t:ja}
end
theorem mI {n:Int} (h1:1≤n) (h2:n < 10 ^ 20):Rt 1 (Str.ofString (toString n))∧cy (Str.ofString (toString n))=n∧Wk (Str.ofString (toString n))∧(Str.ofString (toString n)).length≤20:=by
 obtain⟨m,rfl⟩:=Int.eq_ofNat_of_zero_le (show 0≤n by omega)
 have e:=PySem.W.KIN.signs_num m
 have hg:=eu (n:=(m:Int)) (by omega) (by omega)
 generalize hs:Str.ofString (toString ((m:Nat):Int))=s at *
 have hl:s.length=(Nat.toDigits 10 m).length:=by
  have:=congrArg List.length e
  rw[List.length_map] at this
  rw[←this]
  simp [Str.length]
 have hdig:PySem.NumText.AllDigits s.cps.toList:=by
  rw[e]
  intro c hc
  obtain⟨ch,hch,rfl⟩:=List.mem_map.mp hc
  have:=Nat.isDigit_of_mem_toDigits (b:=10) (by decide) (by decide) hch
  simp [Char.isDigit] at this
  exact⟨by have:=this.1;exact this,by have:=this.2;exact this⟩
 have hv:PySem.NumText.digitsVal s.cps.toList=m:=by rw[e];exact PySem.W.KIN.val_back m
 have hhead:s.cps.toList.head?≠some 48:=by
  intro q
  have ta:=PySem.NumText.toDigits_all s.cps.toList hdig
  rw[hv] at ta
  cases qc:s.cps.toList with
  | nil=>rw[qc] at q;cases q
  | cons c r=>
   rw[qc] at q ta hv
   have hc:c=48:=by simpa using q
   subst hc
   rw[List.dropWhile_cons] at ta
   have hlen:(Nat.toDigits 10 m).length=r.length + 1:=by
    rw[←hl]
    have:s.length=s.cps.toList.length:=by simp [Str.length]
    rw[this,qc];rfl
   have hd:(r.dropWhile (· == 48)).length≤r.length:=(List.dropWhile_sublist _).length_le
   cases qd:r.dropWhile (· == 48) with
   | nil=>
    simp only[show ((48:Nat) == 48)=true from rfl,if_true,qd] at ta
    rw[ta] at hlen
    have:r=[]:=by cases r;rfl;simp at hlen
    subst this
    have:PySem.NumText.digitsVal [48]=0:=rfl
    omega
   | cons d r'=>
    simp only[show ((48:Nat) == 48)=true from rfl,if_true,qd] at ta
    rw[ta,List.length_map] at hlen
    rw[qd] at hd
    omega
 have hlen20:s.length≤20:=by
  rw[hl]
  refine digits10_le (by decide) ?_
  exact_mod_cast h2
 have hw:cK s vU 20=true:=by
  unfold cK
  rw[decide_eq_true hg.2.1,decide_eq_true (show (s.length:Int)≤20 by omega)]
  simp only[Bool.true_and]
  exact List.all_eq_true.mpr fun c hc=>by rw[rG];exact decide_eq_true (hdig c hc)
 have hn:cy s=(m:Int):=by
  unfold cy
  rw[if_pos ⟨hw,hhead⟩,hv]
 have nl:qG s=false:=by
  cases q:qG s with
  | false=>rfl
  | true=>rw[name_num q] at hn;omega
 refine⟨.inr (.inl ⟨rfl,nl,by rw[hn];omega,fun q=>?_⟩),hn,⟨hg.2.2,fun hc=>?_⟩,hlen20⟩
 ·rw[(Zc s q).2] at hn;omega
 ·have:=hdig 32 hc;omega
theorem Zu:∀x∈lits,(∀c∈x.cps.toList,c < 128)∧32∉x.cps.toList∧x.length≤4:=by decide +kernel
theorem rn {x:Str} (h:qG x=true):Rt 0 x:=.inl ⟨rfl,h⟩
theorem rl {x:Str} {k:Nat} (h:lits[k]?=some x):Rt (k + 3) x:=.inr (.inr (.inr ⟨by omega,by rw[Nat.add_sub_cancel];exact h⟩))
structure Wt (k:Nat) (x:Str):Prop where
 rt:Rt k x
 wk:Wk x
 len:x.length≤20
theorem wn {x:Str} (h:qG x=true):Wt 0 x:=⟨rn h,(g9 h).2.2,by have:=(g9 h).2.1;omega⟩
theorem wl {x:Str} {k:Nat} (h:lits[k]?=some x):Wt (k + 3) x:=by
 obtain⟨h1,h2,h3⟩:=Zu x (List.mem_of_getElem? h)
 exact⟨rl h,⟨h1,h2⟩,by omega⟩
noncomputable abbrev JQ:List Nat→List Str→Prop:=Paired Wt
theorem JQ.wk:∀{ks:List Nat} {ws:List Str},JQ ks ws→∀x∈ws,Wk x∧x.length≤20
 | _,_,.nil,x,hx=>by cases hx
 | _,_,.cons r t,x,hx=>by
  (rcases List.mem_cons.mp hx with rfl | hx)
  ·exact⟨r.wk,r.len⟩
  ·exact JQ.wk t x hx
noncomputable def tP (u:Str):Prop:=qG u=true∨u = "any"
theorem wu {u:Str} (h:tP u):∃k,(k=0∨k=3)∧Wt k u:=by
 rcases h with h | rfl
 ·exact⟨0,.inl rfl,wn h⟩
 ·exact⟨3,.inr rfl,wl (k:=0) rfl⟩
theorem uk:∀{rs:List Str},(∀x∈rs,qG x=true)→JQ (List.replicate rs.length 0) rs
 | [],_=>.nil
 | x :: r,h=>.cons (wn (h x (by simp))) (uk fun y hy=>h y (List.mem_cons_of_mem _ hy))
noncomputable def p6 (m:Nat):List Nat:=[12,0,13] ++ List.replicate m 0
noncomputable def Va (m:Nat):Bool:=!dh (p6 m) J5 && !dh (p6 m) QT && !dh (p6 m) KZ && !dh (p6 m) QN && !dh (p6 m) KQ && !Xg (p6 m) && dh ((p6 m).take 2) Z9
inductive Ew where
 | lt (a b:Str)
 | mu (l w a:Str) (n:Int) (r:Str)
 | my (l w a:Str)
 | bn (l w a r:Str)
 | pw (l w a r:Str)
 | pt (n:Str) (rs:List Str)
 | dn
noncomputable def Ew.ws:Ew→List Str
 | .lt a b=>["let",a,"be",b]
 | .mu l w a n r=>[l,w,"must",a,"by",Str.ofString (toString n),"else",r]
 | .my l w a=>[l,w,"may",a]
 | .bn l w a r=>[l,w,"may","not",a,"else",r]
 | .pw l w a r=>[l,w,"by",a,"to",r]
 | .pt n []=>["part",n]
 | .pt n (x :: rs)=>"part" :: n :: "in" :: x :: rs
 | .dn=>["done"]
noncomputable def Ew.row (e:Ew):Str:=Txt.join " " e.ws
noncomputable def Ew.ok:Ew→Prop
 | .lt a b=>qG a=true∧qG b=true
 | .mu l w a n r=>qG l=true∧qG w=true∧qG a=true∧1≤n∧n < 10 ^ 20∧qG r=true
 | .my l w a=>qG l=true∧tP w∧qG a=true
 | .bn l w a r=>qG l=true∧tP w∧qG a=true∧qG r=true
 | .pw l w a r=>qG l=true∧tP w∧qG a=true∧qG r=true
 | .pt n rs=>qG n=true∧(∀x∈rs,qG x=true)∧rs.length≤12
 | .dn=>True
noncomputable def Ew.take (fr:List Fr) (ls:List Str):Ew→Option (List Fr × List Str)
 | .lt a b=>some (push fr (.lt a b),ls)
 | .mu l w a n r=>if l∈ls then none else some (push fr (.cl 0 l w a n r),ls ++ [l])
 | .my l w a=>if l∈ls then none else some (push fr (.cl 1 l w a 0 ""),ls ++ [l])
 | .bn l w a r=>if l∈ls then none else some (push fr (.cl 2 l w a 0 r),ls ++ [l])
 | .pw l w a r=>if l∈ls then none else some (push fr (.cl 3 l w a 0 r),ls ++ [l])
 | .pt n rs=>if fr.length=7∨n∈ls then none else some ((n,rs,[]) :: fr,ls ++ [n])
 | .dn=>match fr with
  | (n,rs,rows) :: (n2,rs2,rows2) :: fr'=>some ((n2,rs2,rows2 ++ [.pt n rs rows]) :: fr',ls)
  | _=>none
theorem Ew.WT:∀{e:Ew},e.ok→(∃ks,JQ ks e.ws)∨e=.dn
 | .lt a b,h=>.inl ⟨_,.cons (wl (k:=7) rfl) (.cons (wn h.1) (.cons (wl (k:=8) rfl) (.cons (wn h.2) .nil)))⟩
 | .mu l w a n r,h=>by
  obtain⟨t1,t2,t3,t4⟩:=mI h.2.2.2.1 h.2.2.2.2.1
  exact .inl ⟨[0,0,4,0,7,1,8,0],.cons (wn h.1) (.cons (wn h.2.1) (.cons (wl (k:=1) rfl) (.cons (wn h.2.2.1) (.cons (wl (k:=4) rfl) (.cons ⟨t1,t3,t4⟩ (.cons (wl (k:=5) rfl) (.cons (wn h.2.2.2.2.2) .nil)))))))⟩
 | .my l w a,h=>by
  obtain⟨k,hk,hw⟩:=wu h.2.1
  exact .inl ⟨[0,k,5,0],.cons (wn h.1) (.cons hw (.cons (wl (k:=2) rfl) (.cons (wn h.2.2) .nil)))⟩
 | .bn l w a r,h=>by
  obtain⟨k,hk,hw⟩:=wu h.2.1
  exact .inl ⟨[0,k,5,6,0,8,0],.cons (wn h.1) (.cons hw (.cons (wl (k:=2) rfl) (.cons (wl (k:=3) rfl) (.cons (wn h.2.2.1) (.cons (wl (k:=5) rfl) (.cons (wn h.2.2.2) .nil))))))⟩
 | .pw l w a r,h=>by
  obtain⟨k,hk,hw⟩:=wu h.2.1
  exact .inl ⟨[0,k,7,0,9,0],.cons (wn h.1) (.cons hw (.cons (wl (k:=4) rfl) (.cons (wn h.2.2.1) (.cons (wl (k:=6) rfl) (.cons (wn h.2.2.2) .nil)))))⟩
 | .pt n [],h=>.inl ⟨_,.cons (wl (k:=9) rfl) (.cons (wn h.1) .nil)⟩
 | .pt n (x :: rs),h=>.inl ⟨_,.cons (wl (k:=9) rfl) (.cons (wn h.1) (.cons (wl (k:=10) rfl) (uk h.2.1)))⟩
 | .dn,_=>.inr rfl
theorem Ew.wk {e:Ew} (h:e.ok):∀x∈e.ws,Wk x∧x.length≤20:=by
 rcases Ew.WT h with ⟨ks,w⟩ | rfl
 ·exact w.wk
 ·intro x hx
  simp only[Ew.ws,List.mem_cons,List.not_mem_nil,or_false] at hx
  subst hx
  exact⟨⟨by unfold asc;decide +kernel,by decide +kernel⟩,by decide +kernel⟩
theorem Ew.ne (e:Ew):e.ws≠[]:=by
 cases e with
 | pt n rs=>cases rs<;>simp [Ew.ws]
 | _=>simp [Ew.ws]
theorem fK:Ew.row .dn = "done":=by decide +kernel
section
variable {P:Program} {w:World} {K:PySem.W.Frag} {mg:Str→Option Value} {base:Heap} {t:ja}
end
structure VE (ps as:List Str) (x9:List (Str × Str)):Prop where
 p1:1≤ps.length
 p2:ps.length≤4
 a1:1≤as.length
 a2:as.length≤6
 r1:1≤x9.length
 r2:x9.length≤12
 pn:∀x∈ps,qG x=true
 an:∀x∈as,qG x=true
 rn:∀mn∈x9,Je mn
 nd:(ps ++ as ++ x9.map (·.2)).Nodup
noncomputable def Xw (mn:Str × Str):Str:=Q8 [mn.1,mn.2]
noncomputable def rowsOf (ps as:List Str) (x9:List (Str × Str)) (evs:List Ew):List Str:=Q8 ("parties" :: ps) :: Q8 ("acts" :: as) :: (x9.map Xw ++ evs.map Ew.row)
noncomputable def KR:Nat→List Ew→List Fr→List Str→Except Nat (List Fr)
 | _,[],fr,_=>.ok fr
 | i,e :: r,fr,ls=>if i=90 then .error i else match e.take fr ls with
  | none=>.error i
  | some (fr',ls')=>KR (i + 1) r fr' ls'
noncomputable def vJ:Ew→List Str
 | .mu l _ _ _ _=>[l]
 | .my l _ _=>[l]
 | .bn l _ _ _=>[l]
 | .pw l _ _ _=>[l]
 | .pt n _=>[n]
 | _=>[]
noncomputable def j0 (evs:List Ew):List Str:=evs.flatMap vJ
noncomputable def dp (d:Nat):Ew→Option Nat
 | .pt _ _=>if d < 6 then some (d + 1) else none
 | .dn=>if 0 < d then some (d - 1) else none
 | _=>some d
noncomputable def cU:Nat→List Ew→Option Nat
 | d,[]=>some d
 | d,e :: r=>(dp d e).bind fun d'=>cU d' r
theorem ZS {d d':Nat} {e:Ew} {fr:List Fr} {ls:List Str} (hd:dp d e=some d') (hf:fr.length=d + 1) (h6:d≤6) (hl:∀x∈vJ e,x∉ls):∃fr',e.take fr ls=some (fr',ls ++ vJ e)∧fr'.length=d' + 1∧d'≤6:=by
 cases e with
 | lt a b=>
  cases hd
  exact⟨push fr (.lt a b),by simp [Ew.take,vJ],by rw[gP];exact hf,h6⟩
 | mu l w a n r=>
  cases hd
  exact⟨_,by rw[Ew.take,if_neg (hl l (by simp [vJ]))];rfl,by rw[gP];exact hf,h6⟩
 | my l w a=>
  cases hd
  exact⟨_,by rw[Ew.take,if_neg (hl l (by simp [vJ]))];rfl,by rw[gP];exact hf,h6⟩
 | bn l w a r=>
  cases hd
  exact⟨_,by rw[Ew.take,if_neg (hl l (by simp [vJ]))];rfl,by rw[gP];exact hf,h6⟩
 | pw l w a r=>
  cases hd
  exact⟨_,by rw[Ew.take,if_neg (hl l (by simp [vJ]))];rfl,by rw[gP];exact hf,h6⟩
 | pt n rs=>
  simp only[dp] at hd
  split at hd
  ·cases hd
   exact⟨_,by rw[Ew.take,if_neg (fun z=>z.elim (fun z=>by omega) (hl n (by simp [vJ])))];rfl,by simp only[List.length_cons];omega,by omega⟩
  ·cases hd
 | dn=>
  simp only[dp] at hd
  split at hd
  ·cases hd
   match fr,hf with
   | [f],hf=>simp only[List.length_cons,List.length_nil] at hf;omega
   | (n,rs,rows) :: (n2,rs2,rows2) :: fr',hf=>
    exact⟨(n2,rs2,rows2 ++ [.pt n rs rows]) :: fr',by simp [Ew.take,vJ],by simp only[List.length_cons] at hf ⊢;omega,by omega⟩
  ·cases hd
section
variable {P:Program} {w:World} {K:PySem.W.Frag} {mg:Str→Option Value} {base:Heap} {t:ja}
end
noncomputable def NN (c:Int):List Str:=(List.range 104).map fun (k:Nat)=>ka c k
theorem gw (c:Int):(NN c).length=104:=by unfold NN;rw[List.length_map,List.length_range]
theorem ve (c:Int) {i:Nat} (h:i < 104):(NN c).getD i "" = ka c i:=by
 unfold NN
 rw[List.getD_eq_getElem?_getD,List.getElem?_map,List.getElem?_range h]
 rfl
noncomputable def wm (H:Hp) (v:V):Ew→Prop
 | .lt a b=>∃p,v=.ref p∧H p=some (.tup [.str "let",.str a,.str b])
 | .mu l w a n r=>∃p,v=.ref p∧H p=some (.tup [.str "must",.str l,.str w,.str a,.int n,.str r])
 | .my l w a=>∃p,v=.ref p∧H p=some (.tup [.str "may",.str l,.str w,.str a])
 | .bn l w a r=>∃p,v=.ref p∧H p=some (.tup [.str "ban",.str l,.str w,.str a,.str r])
 | .pw l w a r=>∃p,v=.ref p∧H p=some (.tup [.str "power",.str l,.str w,.str a,.str r])
 | .pt n rs=>∃p q,v=.ref p∧H p=some (.tup [.str "part",.str n,.ref q])∧H q=some (.lst (rs.map V.str))
 | .dn=>∃p,v=.ref p∧H p=some (.tup [.str "done"])
theorem wm.same {H H':Hp} {v:V} {e:Ew} (h:wm H v e) (s:qx H H'):wm H' v e:=by
 cases e with
 | pt n rs=>obtain⟨p,q,e,h1,h2⟩:=h;exact⟨p,q,e,s _ _ h1,s _ _ h2⟩
 | lt a b=>obtain⟨p,e,h⟩:=h;exact⟨p,e,s _ _ h⟩
 | mu l w a n r=>obtain⟨p,e,h⟩:=h;exact⟨p,e,s _ _ h⟩
 | my l w a=>obtain⟨p,e,h⟩:=h;exact⟨p,e,s _ _ h⟩
 | bn l w a r=>obtain⟨p,e,h⟩:=h;exact⟨p,e,s _ _ h⟩
 | pw l w a r=>obtain⟨p,e,h⟩:=h;exact⟨p,e,s _ _ h⟩
 | dn=>obtain⟨p,e,h⟩:=h;exact⟨p,e,s _ _ h⟩
noncomputable def ik (l:Addr) (H:Hp) (v:V):Ew→Prop
 | .pt n rs=>∃p q,v=.ref p∧H p=some (.tup [.str "part",.str n,.ref q])∧H q=some (.lst (rs.map V.str))∧q≠l
 | e=>wm H v e
theorem ik.ev {l:Addr} {H:Hp} {v:V} {e:Ew} (h:ik l H v e):wm H v e:=by
 cases e with
 | pt n rs=>obtain⟨p,q,e,h1,h2,_⟩:=h;exact⟨p,q,e,h1,h2⟩
 | _=>exact h
theorem ik.same {l:Addr} {H H':Hp} {v:V} {e:Ew} (h:ik l H v e) (s:qx H H'):ik l H' v e:=by
 cases e with
 | pt n rs=>obtain⟨p,q,e,h1,h2,h3⟩:=h;exact⟨p,q,e,s _ _ h1,s _ _ h2,h3⟩
 | lt a b=>obtain⟨p,e,h⟩:=h;exact⟨p,e,s _ _ h⟩
 | mu l w a n r=>obtain⟨p,e,h⟩:=h;exact⟨p,e,s _ _ h⟩
 | my l w a=>obtain⟨p,e,h⟩:=h;exact⟨p,e,s _ _ h⟩
 | bn l w a r=>obtain⟨p,e,h⟩:=h;exact⟨p,e,s _ _ h⟩
 | pw l w a r=>obtain⟨p,e,h⟩:=h;exact⟨p,e,s _ _ h⟩
 | dn=>obtain⟨p,e,h⟩:=h;exact⟨p,e,s _ _ h⟩
theorem ik.keeps {l:Addr} {H H':Hp} {v:V} {e:Ew} {xs:List V} (h:ik l H v e) (k:Keeps l H H') (el:H l=some (.lst xs)):ik l H' v e:=by
 have ne:∀{p:Addr} {ys:List V},H p=some (.tup ys)→H' p=some (.tup ys):=fun q=>k.look q (xU q el (by intro z;cases z))
 cases e with
 | pt n rs=>obtain⟨p,q,e,h1,h2,h3⟩:=h;exact⟨p,q,e,ne h1,k.look h2 h3,h3⟩
 | lt a b=>obtain⟨p,e,h⟩:=h;exact⟨p,e,ne h⟩
 | mu l w a n r=>obtain⟨p,e,h⟩:=h;exact⟨p,e,ne h⟩
 | my l w a=>obtain⟨p,e,h⟩:=h;exact⟨p,e,ne h⟩
 | bn l w a r=>obtain⟨p,e,h⟩:=h;exact⟨p,e,ne h⟩
 | pw l w a r=>obtain⟨p,e,h⟩:=h;exact⟨p,e,ne h⟩
 | dn=>obtain⟨p,e,h⟩:=h;exact⟨p,e,ne h⟩
noncomputable def Kj (lb:Str) (d:Nat) (e:Ew):Prop:=e.ok∧(vJ e=[]∨vJ e=[lb])∧(dp d e).isSome=true
noncomputable def nW (K:PySem.W.Frag):Sp:=fun vs H Q _=>∃(a:Addr) (c cell:Int) (lb:Str) (d:Nat),vs=[.ref a,.int cell,.str lb,.int d]∧qC K H a ((NN c).map V.str)∧0≤cell∧qG lb=true∧∀v e H',qx H H'→(∀l,H l≠none→ik l H' v e)→Kj lb d e→Q v H'
theorem nH:∀{ys:List V},(∀v∈ys,∃x,v=V.str x∧qG x=true)→∃xs:List Str,ys=xs.map V.str∧∀x∈xs,qG x=true
 | [],_=>⟨[],rfl,fun _ z=>(by cases z)⟩
 | y :: ys,h=>by
  obtain⟨x,rfl,hx⟩:=h y List.mem_cons_self
  obtain⟨xs,rfl,hs⟩:=nH fun v hv=>h v (List.mem_cons_of_mem _ hv)
  exact⟨x :: xs,rfl,fun z hz=>(List.mem_cons.mp hz).elim (fun e=>by rw[e];exact hx) (hs z)⟩
theorem tY {ys:List V} (hl:ys.length=3) (h:∀(i:Nat) (v:V),i < 3→ys[i]?=some v→∃x,v=V.str x∧qG x=true):∃x0 x1 x2,ys=[x0,x1,x2].map V.str∧qG x0=true∧qG x1=true∧qG x2=true:=by
 match ys,hl with
 | [a,b,c],_=>
  obtain⟨x0,rfl,h0⟩:=h 0 a (by decide) rfl
  obtain⟨x1,rfl,h1⟩:=h 1 b (by decide) rfl
  obtain⟨x2,rfl,h2⟩:=h 2 c (by decide) rfl
  exact⟨x0,x1,x2,rfl,h0,h1,h2⟩
section
variable {P:Program} {w:World} {K:PySem.W.Frag} {mg:Str→Option Value} {base:Heap} {t:ja}
theorem xR:qX ["_law_names","_law_cell","_law_label","_law_depth","_law_what","_law_some","_law_who","_law_number","_law_many"] ["_law_names","_law_cell","_law_label","_law_depth"] (z5 xu):=⟨rfl,rfl,rfl,by decide +kernel,rfl,by decide +kernel,by decide +kernel⟩
set_option maxHeartbeats 400000 in
theorem sO (T:Txt K mg t):qJ P w K mg base jO 2 t.g6 t.gI ["_law_names","_law_cell","_law_label","_law_depth"] (nW K):=by
 have G_w_mix:qJ P w K mg base jO 1 t.yH t.yJ ["_law_cell","_law_k"] lR:=(fh T).mono (by decide)
 refine T.fo.fn.ok xR (fun vs H Q E h=>(by obtain⟨_,_,_,_,_,rfl,_⟩:=h;rfl)) (fun cdv A outer s H vs Q E hr h=>?_)
 obtain⟨a,c,cell,lb,d,rfl,hA,hc,hlb,k⟩:=h
 refine⟨_,(z4 (ql (i:=4) xR.nd rfl (Or.inl rfl) (qk jz (pv 1) z3))
   (z4 (yS (i:=5) (osc:=z5 xu) (N:=["_law_names","_law_cell","_law_label","_law_depth","_law_what","_law_some","_law_who","_law_number","_law_many"]) (names:=["_law_names","_law_cell"]) (qH:=[0,1]) rfl rfl rfl xR.nd ⟨rfl,by decide +kernel,by decide +kernel,by decide +kernel,rfl,rfl,by decide +kernel,by decide +kernel⟩ rfl rfl (kO rfl T.we (z0 z3 z6)) (fun _ _ _=>(qv (qQ (K:=K) rfl) (pv 1) (qk jz (qe G_w_mix hr rfl T.jT.mg T.jT.fn.kp T.jT.bd .nil qW (z0 (pv 2) (z0 (pv 0) z6))) z3) (fun _ _=>rfl))))
   (z4 (ql (i:=6) xR.nd rfl (Or.inl rfl) (qv (qQ (K:=K) rfl) (pv 5) z3 (fun _ _=>rfl)))
   (z4 (PS.join (qN (qu jo (qk jz (qe G_w_mix hr rfl T.jT.mg T.jT.fn.kp T.jT.bd .nil qW (z0 (pv 1) (z0 z3 z6))) z3) z3 (qi _))
    (z7 (ql (i:=6) xR.nd rfl (Or.inl rfl) z8)) qo))
   (z4 (ql (i:=7) xR.nd rfl (Or.inl rfl) (qk xf z3 (qk jz (qe G_w_mix hr rfl T.jT.mg T.jT.fn.kp T.jT.bd .nil qW (z0 (pv 1) (z0 z3 z6))) z3)))
   (z4 (PS.join (qN (qu jo (qk jz (qe G_w_mix hr rfl T.jT.mg T.jT.fn.kp T.jT.bd .nil qW (z0 (pv 1) (z0 z3 z6))) z3) z3 (qi _))
    (z7 (ql (i:=7) xR.nd rfl (Or.inl rfl) (qk xf z3 (qk jz (qk dR (pv 1) z3) (qk b9 (qk QS z3 z3) z3))))) qo))
   (z4 (PS.join (qN (PW.pt (dA (PW.pt (bP (qu jo (pv 4) z3 (qi _)) (yq (qu jo (pv 4) z3 (qi _))))) (ff (qu lQ (pv 3) z3 (qi _)))))
    (z4 (ql (i:=8) xR.nd rfl (Or.inl rfl) (qk jz (qe G_w_mix hr rfl T.jT.mg T.jT.fn.kp T.jT.bd .nil qW (z0 (pv 1) (z0 z3 z6))) z3))
   (z7 (qr (xk (z0 z8 (z0 (pv 2) (z0 (yc (osc:=z5 xu) (N:=["_law_names","_law_cell","_law_label","_law_depth","_law_what","_law_some","_law_who","_law_number","_law_many"]) (names:=["_law_names","_law_cell"]) (qH:=[0,1]) rfl rfl rfl ⟨rfl,by decide +kernel,by decide +kernel,by decide +kernel,rfl,rfl,by decide +kernel,by decide +kernel⟩ (kO rfl T.we (z0 (pv 8) z6)) (fun _ _ _=>(qv (qQ (K:=K) rfl) (pv 1) (qk jz (qe G_w_mix hr rfl T.jT.mg T.jT.fn.kp T.jT.bd .nil qW (z0 (pv 2) (z0 (qk xf z3 (pv 0)) z6))) z3) (fun _ _=>rfl)))) z6))))))) qo))
   (z4 (PS.join (qN (PW.pt (dA (qu jo (pv 4) z3 (qi _)) (ff (qu eZ (pv 3) z3 (qi _)))))
    (z7 (qr (xk (z0 z8 z6)))) qo))
   (z4 (qN (qu lQ (pv 4) z3 (qi _))
    (z7 (qr (xk (z0 z8 (z0 (qv (qQ (K:=K) rfl) (pv 5) z3 (fun _ _=>rfl)) (z0 (qv (qQ (K:=K) rfl) (pv 5) z3 (fun _ _=>rfl)) z6)))))) qo)
   (z4 (qN (qu lQ (pv 4) z3 (qi _))
    (z7 (qr (xk (z0 z8 (z0 (pv 2) (z0 (qv (qQ (K:=K) rfl) (pv 5) z3 (fun _ _=>rfl)) (z0 (qv (qQ (K:=K) rfl) (pv 5) z3 (fun _ _=>rfl)) (z0 (pv 7) (z0 (qv (qQ (K:=K) rfl) (pv 5) z3 (fun _ _=>rfl)) z6))))))))) qo)
   (z4 (qN (qu jo (pv 4) z3 (qi _))
    (z7 (qr (xk (z0 z8 (z0 (pv 2) (z0 (pv 6) (z0 (qv (qQ (K:=K) rfl) (pv 5) z3 (fun _ _=>rfl)) z6))))))) qo)
   (z4 (qN (qu jo (pv 4) z3 (qi _))
    (z7 (qr (xk (z0 z8 (z0 (pv 2) (z0 (pv 6) (z0 (qv (qQ (K:=K) rfl) (pv 5) z3 (fun _ _=>rfl)) (z0 (qv (qQ (K:=K) rfl) (pv 5) z3 (fun _ _=>rfl)) z6)))))))) qo)
   (z7 (qr (xk (z0 z8 (z0 (pv 2) (z0 (pv 6) (z0 (qv (qQ (K:=K) rfl) (pv 5) z3 (fun _ _=>rfl)) (z0 (qv (qQ (K:=K) rfl) (pv 5) z3 (fun _ _=>rfl)) z6)))))))))))))))))))),?_⟩
 have hN:=gw c
 have w0:0≤cell % 9:=Int.emod_nonneg _ (by decide)
 have w1:cell % 9 < 9:=Int.emod_lt_of_pos _ (by decide)
 walk_at "rd"
 refine vO pz (fun _ _ v=>∃x,v=V.str x∧qG x=true) (qy (by decide +kernel)) ?_ ?_
 ·intro i y H' Q' hy s' kk
  have hi:i < 3:=by
   have:=(List.getElem?_eq_some_iff.mp hy).1
   simpa using this
  have hy':y=V.int (0 + (i:Int)):=by
   rw[List.getElem?_map,List.getElem?_range (show i < (3:Int).toNat from hi)] at hy
   exact(Option.some.inj hy).symm
  subst hy'
  have x0:0≤wo cell (0 + (i:Int)) % 40:=Int.emod_nonneg _ (by decide)
  have x1:wo cell (0 + (i:Int)) % 40 < 40:=Int.emod_lt_of_pos _ (by decide)
  have hA':=s'.seq hA
  walk_at "rd"
  exact kk _ _ (qx.refl _) ⟨_,rfl,by rw[ve c (by omega)];exact md c⟩
 intro l5 H1 ys s1 hl5 e1 hlen hp
 obtain⟨x0,x1,x2,rfl,g0,g1,g2⟩:=tY (by simpa using hlen) fun i v hi hv=>hp i (V.int (0 + (i:Int))) v (by rw[List.getElem?_map,List.getElem?_range (show i < (3:Int).toNat from hi)];rfl) hv
 clear hp hlen
 have hA1:=s1.seq hA
 have ex0:f7 ([x0,x1,x2].map V.str) 0=some (.str x0):=rfl
 have ex1:f7 ([x0,x1,x2].map V.str) 1=some (.str x1):=rfl
 have ex2:f7 ([x0,x1,x2].map V.str) 2=some (.str x2):=rfl
 have hX:qC K H1 l5 ([x0,x1,x2].map V.str):=qC.of e1
 refine⟨_,rfl,l5,_,_,_,rfl,rfl,hX,ex0,?_⟩
 refine⟨fun σ' H'=>(∃u,σ'=[some (.ref a),some (.int cell),some (.str lb),some (.int d),some (.int (cell % 9)),some (.ref l5),some (.str u),none,none]∧tP u∧H'=H1)∨False,?_,?_⟩
 ·walk_at "rd"
  refine kD (fun _=>?_) (fun _=>.inl ⟨_,rfl,.inl g0,rfl⟩)
  walk_at "rd"
  exact .inl ⟨_,rfl,.inr rfl,rfl⟩
 rintro σ' H2 (⟨u,rfl,hu,rfl⟩ | ⟨⟨⟩⟩)
 walk_at "rd"
 refine⟨fun σ' H'=>(∃n,σ'=[some (.ref a),some (.int cell),some (.str lb),some (.int d),some (.int (cell % 9)),some (.ref l5),some (.str u),some (.int n),none]∧1≤n∧n < 10 ^ 20∧H'=H2)∨False,?_,?_⟩
 ·walk_at "rd"
  refine kD (fun _=>?_) (fun _=>.inl ⟨_,rfl,?_,?_,rfl⟩)
  ·walk_at "rd"
   have e20:(10:Int) ^ (Int.toNat 20) - 1=99999999999999999999:=by decide +kernel
   have p0:=Int.emod_nonneg (cell * 48271) (show (99999999999999999999:Int)≠0 by decide)
   have p1:=Int.emod_lt_of_pos (cell * 48271) (show (0:Int) < 99999999999999999999 by decide)
   refine .inl ⟨_,rfl,?_,?_,rfl⟩
   ·show 1≤1 + cell * 48271 % (10 ^ (Int.toNat 20) - 1)
    rw[e20];omega
   ·show 1 + cell * 48271 % (10 ^ (Int.toNat 20) - 1) < 10 ^ 20
    rw[e20];omega
  ·show 1≤1 + wo cell 4 % 5
   omega
  ·show 1 + wo cell 4 % 5 < 10 ^ 20
   omega
 rintro σ' H3 (⟨n,rfl,n1,n2,rfl⟩ | ⟨⟨⟩⟩)
 refine⟨fun σ' H'=>(σ'=[some (.ref a),some (.int cell),some (.str lb),some (.int d),some (.int (cell % 9)),some (.ref l5),some (.str u),some (.int n),none]∧H'=H3)∨False,?_,?_⟩
 ·walk_at "rd"
  refine kD (fun _=>rP ?pa) (fun _=>?pb)
  case' pb=>
   walk_at "rd"
   refine kD (fun _=>?_) (fun _=>pP (.inl ⟨rfl,rfl⟩))
  all_goals
   walk_at "rd"
   refine kD (fun hd=>?_) (fun _=>.inl ⟨rfl,rfl⟩)
   have hd':(d:Int) < 6:=of_decide_eq_true hd
   have m0:0≤wo cell 6 % 13:=Int.emod_nonneg _ (by decide)
   have m1:wo cell 6 % 13 < 13:=Int.emod_lt_of_pos _ (by decide)
   walk_at "rd"
   generalize (wo cell 6 % 13)=m at *
   refine vO pz (fun _ _ v=>∃x,v=V.str x∧qG x=true) (qy (by rw[List.length_map,List.length_range];omega)) ?_ ?_
   ·intro i y H' Q' hy s' kk
    have hi:i < m.toNat:=by
     have:=(List.getElem?_eq_some_iff.mp hy).1
     simpa using this
    have hy':y=V.int (0 + (i:Int)):=by
     rw[List.getElem?_map,List.getElem?_range hi] at hy
     exact(Option.some.inj hy).symm
    subst hy'
    have x0:0≤wo cell (7 + (0 + (i:Int))) % 40:=Int.emod_nonneg _ (by decide)
    have x1:wo cell (7 + (0 + (i:Int))) % 40 < 40:=Int.emod_lt_of_pos _ (by decide)
    have hA':=s'.seq hA1
    walk_at "rd"
    exact kk _ _ (qx.refl _) ⟨_,rfl,by rw[ve c (by omega)];exact md c⟩
   intro l6 H4 ys s4 hl6 e4 hlen hp
   obtain⟨xs,rfl,hxs⟩:=nH (ys:=ys) fun v hv=>by
    obtain⟨i,hi⟩:=List.mem_iff_getElem?.mp hv
    have hi':i < m.toNat:=by
     have:=(List.getElem?_eq_some_iff.mp hi).1
     rw[hlen] at this
     simpa using this
    exact hp i (V.int (0 + (i:Int))) v (by rw[List.getElem?_map,List.getElem?_range hi'];rfl) hi
   have hl':xs.length≤12:=by
    rw[List.length_map,List.length_map,List.length_range] at hlen
    omega
   walk_at "rd"
   intro q H6 s6 hq e6
   exact k (.ref q) (.pt lb xs) H6 ((s1.trans s4).trans s6) (fun l hl=>⟨q,l6,rfl,e6,s6 _ _ e4,fun z=>hl (by rw[←z];exact s1.free hl6)⟩) ⟨⟨hlb,hxs,hl'⟩,.inr rfl,by simp only[dp];rw[if_pos (by omega)];rfl⟩
 rintro σ' H4 (⟨rfl,rfl⟩ | ⟨⟨⟩⟩)
 refine⟨fun σ' H'=>(σ'=[some (.ref a),some (.int cell),some (.str lb),some (.int d),some (.int (cell % 9)),some (.ref l5),some (.str u),some (.int n),none]∧H'=H4)∨False,?_,?_⟩
 ·walk_at "rd"
  refine kD (fun _=>?_) (fun _=>pP (.inl ⟨rfl,rfl⟩))
  walk_at "rd"
  refine kD (fun hd=>?_) (fun _=>.inl ⟨rfl,rfl⟩)
  have hd':0 < (d:Int):=of_decide_eq_true hd
  walk_at "rd"
  intro q H6 s6 hq e6
  exact k (.ref q) .dn H6 (s1.trans s6) (fun _ _=>⟨q,rfl,e6⟩) ⟨True.intro,.inl rfl,by simp only[dp];rw[if_pos (by omega)];rfl⟩
 rintro σ' H5 (⟨rfl,rfl⟩ | ⟨⟨⟩⟩)
 walk_at "rd"
 refine kD (fun _=>?_) (fun _=>?_)
 ·walk_at "rd"
  intro q H6 s6 hq e6
  exact k (.ref q) (.lt x0 x1) H6 (s1.trans s6) (fun _ _=>⟨q,rfl,e6⟩) ⟨⟨g0,g1⟩,.inl rfl,rfl⟩
 walk_at "rd"
 refine kD (fun _=>?_) (fun _=>?_)
 ·walk_at "rd"
  intro q H6 s6 hq e6
  exact k (.ref q) (.mu lb x0 x1 n x2) H6 (s1.trans s6) (fun _ _=>⟨q,rfl,e6⟩) ⟨⟨hlb,g0,g1,n1,n2,g2⟩,.inr rfl,rfl⟩
 walk_at "rd"
 refine kD (fun _=>?_) (fun _=>?_)
 ·walk_at "rd"
  intro q H6 s6 hq e6
  exact k (.ref q) (.my lb u x1) H6 (s1.trans s6) (fun _ _=>⟨q,rfl,e6⟩) ⟨⟨hlb,hu,g1⟩,.inr rfl,rfl⟩
 walk_at "rd"
 refine kD (fun _=>?_) (fun _=>?_)
 ·walk_at "rd"
  intro q H6 s6 hq e6
  exact k (.ref q) (.bn lb u x1 x2) H6 (s1.trans s6) (fun _ _=>⟨q,rfl,e6⟩) ⟨⟨hlb,hu,g1,g2⟩,.inr rfl,rfl⟩
 walk_at "rd"
 intro q H6 s6 hq e6
 exact k (.ref q) (.pw lb u x1 x2) H6 (s1.trans s6) (fun _ _=>⟨q,rfl,e6⟩) ⟨⟨hlb,hu,g1,g2⟩,.inr rfl,rfl⟩
end
structure nM (evs:List Ew):Prop where
 ok:∀e∈evs,e.ok
 dp:cU 0 evs=some 0
 nd:(j0 evs).Nodup
 len:evs.length≤66
theorem mC:∀{e1 e2:List Ew} {d:Nat},cU d (e1 ++ e2)=(cU d e1).bind fun d'=>cU d' e2
 | [],_,_=>rfl
 | e :: r,e2,d=>by
  rw[List.cons_append,cU,cU]
  cases dp d e with
  | none=>rfl
  | some d'=>exact mC (e1:=r)
theorem JH {d d':Nat} {e:Ew} (h:dp d e=some d') (h6:d≤6):d'≤6:=by
 cases e with
 | pt n rs=>
  simp only[dp] at h
  split at h
  ·cases h;omega
  ·cases h
 | dn=>
  simp only[dp] at h
  split at h
  ·cases h;omega
  ·cases h
 | _=>cases h;exact h6
theorem iY:∀(d:Nat),cU d (List.replicate d Ew.dn)=some 0
 | 0=>rfl
 | d + 1=>by
  rw[List.replicate_succ,cU,dp,if_pos (by omega)]
  exact iY d
theorem fB (e1 e2:List Ew):j0 (e1 ++ e2)=j0 e1 ++ j0 e2:=by unfold j0;rw[List.flatMap_append]
theorem da:∀(d:Nat),j0 (List.replicate d Ew.dn)=[]
 | 0=>rfl
 | d + 1=>by
  rw[List.replicate_succ]
  show vJ Ew.dn ++ j0 (List.replicate d Ew.dn)=[]
  rw[da d];rfl
theorem Paired.app {α β:Type} {F:α→β→Prop}:∀{a a':List α} {b b':List β},Paired F a b→Paired F a' b'→Paired F (a ++ a') (b ++ b')
 | [],_,[],_,_,h=>h
 | _ :: _,_,_ :: _,_,.cons h t,q=>.cons h (Paired.app t q)
theorem dS {α β:Type} {F:α→β→Prop} {a:α} {b:β} (h:F a b):∀n,Paired F (List.replicate n a) (List.replicate n b)
 | 0=>.nil
 | n + 1=>.cons h (dS h n)
noncomputable def kw:Ew→Str
 | .lt _ _=>"let"
 | .mu _ _ _ _ _=>"must"
 | .my _ _ _=>"may"
 | .bn _ _ _ _=>"ban"
 | .pw _ _ _ _=>"power"
 | .pt _ _=>"part"
 | .dn=>"done"
theorem wm.first {H:Hp} {v:V} {e:Ew} (h:wm H v e):∃p xs,v=.ref p∧H p=some (.tup xs)∧f7 xs 0=some (.str (kw e)):=by
 cases e with
 | pt n rs=>obtain⟨p,q,e,h1,h2⟩:=h;exact⟨p,_,e,h1,rfl⟩
 | lt a b=>obtain⟨p,e,h⟩:=h;exact⟨p,_,e,h,rfl⟩
 | mu l w a n r=>obtain⟨p,e,h⟩:=h;exact⟨p,_,e,h,rfl⟩
 | my l w a=>obtain⟨p,e,h⟩:=h;exact⟨p,_,e,h,rfl⟩
 | bn l w a r=>obtain⟨p,e,h⟩:=h;exact⟨p,_,e,h,rfl⟩
 | pw l w a r=>obtain⟨p,e,h⟩:=h;exact⟨p,_,e,h,rfl⟩
 | dn=>obtain⟨p,e,h⟩:=h;exact⟨p,_,e,h,rfl⟩
noncomputable def W5 (b:Bool):Int:=if b=true then 1 else 0
theorem JI {d d':Nat} {e:Ew} (h:dp d e=some d'):(d:Int) + (if decide (V.str (kw e)=V.str (Str.ofString "part"))=true then (1:Int) else 0) - (if decide (V.str (kw e)=V.str (Str.ofString "done"))=true then (1:Int) else 0)=(d':Nat):=by
 have k1:∀x∈(["let","must","may","ban","power"]:List Str),¬x = "part"∧¬x = "done":=by decide +kernel
 have k2:¬("part" : Str) = "done":=by decide +kernel
 have none:∀{x:Str},x∈(["let","must","may","ban","power"]:List Str)→(d:Int) + (if decide (V.str x=V.str (Str.ofString "part"))=true then (1:Int) else 0) - (if decide (V.str x=V.str (Str.ofString "done"))=true then (1:Int) else 0)=d:=fun {x} hx=>by
  have h1:¬V.str x=V.str (Str.ofString "part"):=fun z=>(k1 x hx).1 (V.str.inj z)
  have h2:¬V.str x=V.str (Str.ofString "done"):=fun z=>(k1 x hx).2 (V.str.inj z)
  rw[decide_eq_false h1,decide_eq_false h2];simp
 cases e with
 | pt n rs=>
  simp only[dp] at h
  split at h
  ·cases h
   have h2:¬V.str (kw (.pt n rs))=V.str (Str.ofString "done"):=fun z=>k2 (V.str.inj z)
   rw[decide_eq_false h2,decide_eq_true (show V.str (kw (.pt n rs))=V.str (Str.ofString "part") from rfl)]
   simp
  ·cases h
 | dn=>
  simp only[dp] at h
  split at h
  ·cases h
   have h2:¬V.str (kw .dn)=V.str (Str.ofString "part"):=fun z=>k2 (V.str.inj z).symm
   rw[decide_eq_false h2,decide_eq_true (show V.str (kw .dn)=V.str (Str.ofString "done") from rfl)]
   simp;omega
  ·cases h
 | lt a b=>cases h;exact none (by simp [kw])
 | mu l w a n r=>cases h;exact none (by simp [kw])
 | my l w a=>cases h;exact none (by simp [kw])
 | bn l w a r=>cases h;exact none (by simp [kw])
 | pw l w a r=>cases h;exact none (by simp [kw])
theorem uB {α:Type} (x:α):∀n:Nat,(List.replicate n [x]).flatten=List.replicate n x
 | 0=>rfl
 | n + 1=>by rw[List.replicate_succ,List.flatten_cons,uB x n];rfl
theorem rL {c:Int} {I:List Nat} (h:I.Nodup) (hb:∀i∈I,i < 208):(I.map fun (i:Nat)=>ka c (i:Int)).Nodup:=by
 induction I with
 | nil=>simp
 | cons a r ih=>
  rw[List.nodup_cons] at h
  (rw[List.map_cons,List.nodup_cons])
  refine⟨fun hm=>?_,ih h.2 fun i hi=>hb i (List.mem_cons_of_mem _ hi)⟩
  obtain⟨b,hbm,e⟩:=List.mem_map.mp hm
  have ha:=hb a List.mem_cons_self
  have hb':=hb b (List.mem_cons_of_mem _ hbm)
  have:=eg (c:=c) (k1:=b) (k2:=a) (by omega) (by omega) e
  exact h.1 (by rw[show a=b by omega];exact hbm)
noncomputable def lU (K:PySem.W.Frag):Sp:=fun vs H Q _=>∃(a b:Addr) (c:Int) (ns:List Int),vs=[.ref a,.ref b]∧qC K H a ((NN c).map V.str)∧qC K H b (ns.map V.int)∧ns.length≤70∧∀l H' ws evs,qx H H'→H l=none→H' l=some (.lst ws)→Paired (wm H') ws evs→nM evs→ka c 103∉j0 evs→Q (.ref l) H'
section
variable {P:Program} {w:World} {K:PySem.W.Frag} {mg:Str→Option Value} {base:Heap} {t:ja}
theorem xS:qX ["_law_names","_law_script","_law_base","_law_events_here","_law_depth","_law_number","_law_event_here"] ["_law_names","_law_script"] (z5 xa):=⟨rfl,rfl,rfl,by decide +kernel,rfl,by decide +kernel,by decide +kernel⟩
set_option maxHeartbeats 400000 in
theorem lz (T:Txt K mg t):qJ P w K mg base jO 3 t.yY t.yZ ["_law_names","_law_script"] (lU K):=by
 have G_w_cell_at:qJ P w K mg base jO 2 t.vm t.vp ["_law_script","_law_k"] (tZ K):=(fg T).mono (by decide)
 have G_w_event:qJ P w K mg base jO 2 t.g6 t.gI ["_law_names","_law_cell","_law_label","_law_depth"] (nW K):=(sO T).mono (by decide)
 refine T.gU.fn.ok xS (fun vs H Q E h=>(by obtain⟨_,_,_,_,rfl,_⟩:=h;rfl)) (fun cdv A outer s H vs Q E hr h=>?_)
 obtain⟨a,b,c,ns,rfl,hA,hS,hl,k⟩:=h
 refine⟨_,(z4 (ql (i:=2) xS.nd rfl (Or.inl rfl) (qk dR (qk jz (qe G_w_cell_at hr rfl T.jg.mg T.jg.fn.kp T.jg.bd .nil qW (z0 (pv 1) (z0 z3 z6))) z3) z3))
   (z4 (ql (i:=3) xS.nd rfl (Or.inl rfl) (qD z6) vw)
   (z4 (ql (i:=4) xS.nd rfl (Or.inl rfl) z3)
   (z4 (kI PassesOwn.never rfl (kO rfl T.we (z0 (qU (xI (K:=K) rfl) rfl T.bh PySem.boot_len (z0 (yr (yd (K:=K) rfl) (pv 1) (vx z3) (vx z3)) z6)) z6)) (jn (i:=5) xS.nd rfl (Or.inl rfl))
    (z4 (ql (i:=6) xS.nd rfl (Or.inl rfl) (qe G_w_event hr rfl T.fo.mg T.fo.fn.kp T.fo.bd .nil qW (z0 (pv 0) (z0 (qe G_w_cell_at hr rfl T.jg.mg T.jg.fn.kp T.jg.bd .nil qW (z0 (pv 1) (z0 (qk xf z3 (pv 5)) z6))) (z0 (qv (qQ (K:=K) rfl) (pv 0) (qk xf (pv 2) (pv 5)) (fun _ _=>rfl)) (z0 (pv 4) z6))))))
   (z4 (ql (i:=4) xS.nd rfl (Or.inl rfl) (qk b9 (qk xf (pv 4) (jH vD rfl T.pQ PyProof.Rows.boot_int (z0 (vB jo (qv (qz (K:=K) rfl) (pv 6) z3 (fun _ _=>rfl)) z8 (qi _)) z6))) (jH vD rfl T.pQ PyProof.Rows.boot_int (z0 (vB jo (qv (qz (K:=K) rfl) (pv 6) z3 (fun _ _=>rfl)) z8 (qi _)) z6))))
   (z7 (jf (kZ PySem.F.plainAttrs_list PySem.F.slot_list_append PySem.F.type_list_append j4 (pv 3) (z0 (pv 6) z6)))))))
   (z7 (qr (qk yR (pv 3) (qk eK (qD (z0 (xk (z0 z8 z6)) z6)) (pv 4))))))))),?_⟩
 have hN:=gw c
 refine⟨_,rfl,b,2,ns,rfl,hS,by decide,?_⟩
 have b0:0≤vK ns 2 % 2:=Int.emod_nonneg _ (by decide)
 have b1:vK ns 2 % 2 < 2:=Int.emod_lt_of_pos _ (by decide)
 obtain⟨bs,ebs,hbs⟩:∃bs:Nat,vK ns 2 % 2 * 22=bs∧bs≤22:=⟨(vK ns 2 % 2 * 22).toNat,by omega,by omega⟩
 walk_at "rd"
 intro le H1 s1 hle e1
 walk_at "rd"
 intro l2 H2 s2 hl2 e2
 refine⟨l2,_,rfl,.inl (qC.of e2),?_⟩
 have hcl:(wR (ns.map V.int) (some 3) (some 63)).length≤60:=by
  show (wR (ns.map V.int) (some ((3:Nat):Int)) (some ((63:Nat):Int))).length≤60
  unfold wR
  rw[HT.wH,HT.wH,List.length_take,List.length_drop,List.length_map]
  omega
 generalize hm:(wR (ns.map V.int) (some 3) (some 63)).length=m at *
 refine⟨_,rfl,by omega,by omega,?_⟩
 have emt:((m:Int)).toNat=m:=Int.toNat_natCast m
 rw[emt]
 refine fW (lo:=0) (n:=m) (fun i σ H'=>∃(ws:List V) (evs:List Ew) (I:List Nat) (d:Nat) (v5 v6:Option V),σ=[some (.ref a),some (.ref b),some (.int bs),some (.ref le),some (.int d),v5,v6]∧qx H H'∧H' le=some (.lst ws)∧Paired (ik le H') ws evs∧(∀e∈evs,e.ok)∧cU 0 evs=some d∧d≤6∧evs.length=i∧j0 evs=I.map (fun (j:Nat)=>ka c (j:Int))∧I.Nodup∧∀x∈I,x < bs + i)
  ⟨[],[],[],0,none,none,by rw[←ebs];rfl,s1.trans s2,s2 _ _ e1,.nil,fun _ z=>(by cases z),rfl,by omega,rfl,rfl,by simp,fun _ z=>(by cases z)⟩ ?_ ?_
 ·rintro i σ H3 hi ⟨ws,evs,I,d,v5,v6,rfl,s3,e3,hP,jG,hdp,h6,hlen,hlab,hnd,hI⟩
  have hA3:=s3.seq hA
  have hS3:=s3.seq hS
  have hm':i < m:=by omega
  walk_at "rd"
  refine⟨b,3 + (0 + (i:Int)),ns,rfl,hS3,by omega,?_⟩
  have hix:f7 ((NN c).map V.str) ((bs:Int) + (0 + (i:Int)))=some (.str (ka c ((bs + i:Nat):Int))):=by
   rw[pZ (by omega) (by omega),show ((bs:Int) + (0 + (i:Int))).toNat=bs + i by omega,ve c (by omega)]
  refine⟨_,rfl,_,rfl,_,rfl,_,_,rfl,rfl,a,_,_,_,rfl,rfl,hA3,hix,?_⟩
  refine⟨_,rfl,a,c,_,_,d,rfl,hA3,(aA ns _).1,md c,fun v e H4 s4 he hg=>?_⟩
  obtain⟨g1,g2,g3⟩:=hg
  obtain⟨d',ed⟩:=Option.isSome_iff_exists.mp g3
  have hF:ik le H4 v e:=he le (by rw[e3];intro z;cases z)
  obtain⟨p,xs,rfl,ep,ex⟩:=hF.ev.first
  refine⟨_,rfl,_,rfl,p,_,_,_,rfl,rfl,kU.of ep,ex,?_⟩
  walk_at "rd"
  refine .inr ⟨_,rfl,?_⟩
  walk_at "rd"
  refine⟨p,_,_,_,rfl,rfl,kU.of ep,ex,?_⟩
  walk_at "rd"
  refine .inr ⟨_,rfl,?_⟩
  walk_at "rd"
  have e4:=s4 _ _ e3
  refine⟨le,_,_,rfl,rfl,e4,qy (by have:=Paired.length hP;omega),?_⟩
  intro H5 k5 e5
  have sB:qx H H5:=k5.put (s3.trans s4) hle
  have hd6:d'≤6:=JH ed h6
  refine⟨ws ++ [.ref p],evs ++ [e],if vJ e=[] then I else I ++ [bs + i],d',_,_,by rw[←JI ed];rfl,sB,e5,Paired.snoc (Paired.imp' (fun _ _ z=>(z.same s4).keeps k5 e4) hP) (hF.keeps k5 e4),fun x hx=>?_,by rw[mC,hdp];show (dp d e).bind _=_;rw[ed];rfl,hd6,by rw[List.length_append,hlen];rfl,?_,?_,fun x hx=>?_⟩
  ·(rcases List.mem_append.mp hx with hx | hx)
   ·exact jG x hx
   ·rw[List.mem_singleton.mp hx];exact g1
  ·rw[fB,hlab]
   have e1:j0 [e]=vJ e:=by simp [j0]
   rw[e1]
   rcases g2 with g2 | g2
   ·rw[if_pos g2,g2,List.append_nil]
   ·rw[if_neg (by rw[g2];simp),g2,List.map_append];rfl
  ·split
   ·exact hnd
   ·rw[List.nodup_append]
    exact⟨hnd,by simp,fun x hx y hy z=>by have:=hI x hx;rw[List.mem_singleton.mp hy] at z;omega⟩
  ·split at hx
   ·have:=hI x hx;omega
   ·(rcases List.mem_append.mp hx with hx | hx)
    ·have:=hI x hx;omega
    ·rw[List.mem_singleton.mp hx];omega
 ·rintro σ H3 ⟨ws,evs,I,d,v5,v6,rfl,s3,e3,hP,jG,hdp,h6,hlen,hlab,hnd,hI⟩
  walk_at "rd"
  intro tq H4 s4 htq e4
  walk_at "rd"
  intro lq H5 s5 hlq e5
  refine⟨_,rfl,lq,(d:Int),_,rfl,rfl,e5,by omega,by omega,qy (by simp only[List.length_cons,List.length_nil,Int.toNat_natCast];omega),fun q hq=>?_⟩
  have s6:qx H5 (upd H5 q (.lst (List.replicate ((d:Nat):Int).toNat [V.ref tq]).flatten)):=qx.sT hq
  have hwl:ws.length=evs.length:=Paired.length hP
  refine⟨le,q,_,_,rfl,rfl,s6 _ _ (s5 _ _ (s4 _ _ e3)),qg,qy (by rw[len_rep];simp only[List.length_cons,List.length_nil,Int.toNat_natCast];omega),?_⟩
  intro l7 H7 s7 hl7 e7
  have sA:=(((s3.trans s4).trans s5).trans s6).trans s7
  rw[Int.toNat_natCast,uB] at e7
  refine k l7 H7 _ (evs ++ List.replicate d .dn) sA ((((s3.trans s4).trans s5).trans s6).free hl7) e7 (Paired.app (Paired.imp' (fun _ _ z=>(z.ev).same (((s4.trans s5).trans s6).trans s7)) hP) (dS (show wm H7 (.ref tq) .dn from ⟨tq,rfl,((s5.trans s6).trans s7) _ _ e4⟩) d)) ⟨fun e he=>?_,?_,?_,?_⟩ fun hm=>?_
  ·(rcases List.mem_append.mp he with he | he)
   ·exact jG e he
   ·rw[(List.mem_replicate.mp he).2];exact True.intro
  ·rw[mC,hdp];exact iY d
  ·rw[fB,da,List.append_nil,hlab];exact rL hnd fun x hx=>by have:=hI x hx;omega
  ·rw[List.length_append,List.length_replicate];omega
  ·rw[fB,da,List.append_nil,hlab] at hm
   obtain⟨j,hj,e⟩:=List.mem_map.mp hm
   have h1:=hI j hj
   have h2:=eg (c:=c) (k1:=(j:Int)) (k2:=103) (by omega) (by omega) e
   omega
end
theorem Zx {α:Type} (f:α→V) (xs:List α) (n m:Nat) (h:n + m≤xs.length):wR (xs.map f) (some (n:Int)) (some ((n + m:Nat):Int))=((xs.drop n).take m).map f:=by
 unfold wR
 rw[HT.wH,HT.wH,List.length_map,Nat.min_eq_left (show n≤xs.length by omega),Nat.min_eq_left (show n + m≤xs.length from h),←List.map_drop,←List.map_take,Nat.add_sub_cancel_left]
theorem ig (c:Int) {n m:Nat} (h:n + m≤104):((NN c).drop n).take m=(List.range m).map fun (j:Nat)=>ka c ((n + j:Nat):Int):=by
 apply List.ext_getElem?
 intro i
 by_cases q:i < m
 ·rw[List.getElem?_take_of_lt q,List.getElem?_drop,List.getElem?_map,List.getElem?_range q]
  unfold NN
  rw[List.getElem?_map,List.getElem?_range (by omega)]
  rfl
 ·rw[List.getElem?_eq_none_iff.mpr (by rw[List.length_take];omega),List.getElem?_eq_none_iff.mpr (by rw[List.length_map,List.length_range];omega)]
structure VA (c:Int) (ps as:List Str) (x9:List (Str × Str)):Prop where
 hd:VE ps as x9
 ps:ps=(List.range ps.length).map fun (j:Nat)=>ka c (j:Int)
 as:as=(List.range as.length).map fun (j:Nat)=>ka c ((4 + j:Nat):Int)
 x9:x9.map (·.2)=(List.range x9.length).map fun (j:Nat)=>ka c ((10 + j:Nat):Int)
theorem iT (c:Int) {n0 n1 n2:Nat} (h0:n0≤4) (h1:n1≤6) (h2:n2≤12):((List.range n0).map (fun (j:Nat)=>ka c (j:Int)) ++ (List.range n1).map (fun (j:Nat)=>ka c ((4 + j:Nat):Int)) ++ (List.range n2).map (fun (j:Nat)=>ka c ((10 + j:Nat):Int))).Nodup:=by
 have:=rL (c:=c) (I:=List.range n0 ++ (List.range n1).map (4 + ·) ++ (List.range n2).map (10 + ·)) ?_ ?_
 ·rw[List.map_append,List.map_append,List.map_map,List.map_map] at this
  exact this
 ·rw[List.nodup_append,List.nodup_append]
  refine⟨⟨List.nodup_range,?_,?_⟩,?_,?_⟩
  ·exact List.Pairwise.map _ (fun a b h z=>h (by omega)) List.nodup_range
  ·intro x hx y hy z
   obtain⟨j,_,rfl⟩:=List.mem_map.mp hy
   have:=List.mem_range.mp hx
   omega
  ·exact List.Pairwise.map _ (fun a b h z=>h (by omega)) List.nodup_range
  ·intro x hx y hy z
   obtain⟨j,_,rfl⟩:=List.mem_map.mp hy
   (rcases List.mem_append.mp hx with hx | hx)
   ·have:=List.mem_range.mp hx;omega
   ·obtain⟨j',hj',rfl⟩:=List.mem_map.mp hx
    have:=List.mem_range.mp hj'
    omega
 ·intro x hx
  (rcases List.mem_append.mp hx with hx | hx)
  ·(rcases List.mem_append.mp hx with hx | hx)
   ·have:=List.mem_range.mp hx;omega
   ·obtain⟨j',hj',rfl⟩:=List.mem_map.mp hx
    have:=List.mem_range.mp hj'
    omega
  ·obtain⟨j',hj',rfl⟩:=List.mem_map.mp hx
   have:=List.mem_range.mp hj'
   omega
noncomputable def iw (H:Hp) (p:Addr) (ps as:List Str) (x9:List (Str × Str)):Prop:=∃lp la lr vs,H p=some (.tup [.ref lp,.ref la,.ref lr])∧H lp=some (.lst (ps.map V.str))∧H la=some (.lst (as.map V.str))∧H lr=some (.lst vs)∧Paired (bF H) vs x9
theorem iw.same {H H':Hp} {p:Addr} {ps as:List Str} {x9:List (Str × Str)} (h:iw H p ps as x9) (s:qx H H'):iw H' p ps as x9:=by
 obtain⟨lp,la,lr,vs,h1,h2,h3,h4,h5⟩:=h
 exact⟨lp,la,lr,vs,s _ _ h1,s _ _ h2,s _ _ h3,s _ _ h4,Paired.imp' (fun _ _ z=>z.same s) h5⟩
noncomputable def au (K:PySem.W.Frag):Sp:=fun vs H Q _=>∃(a:Addr) (c cell:Int),vs=[.ref a,.int cell]∧qC K H a ((NN c).map V.str)∧0≤cell∧∀ps as x9 p H',VA c ps as x9→qx H H'→H p=none→iw H' p ps as x9→Q (.ref p) H'
noncomputable def Kl:List Str:=["calm","sore","end"]
theorem J0:∀j < 3,Kl.getD j ""∈di:=by decide +kernel
section
variable {P:Program} {w:World} {K:PySem.W.Frag} {mg:Str→Option Value} {base:Heap} {t:ja}
theorem vc:qX ["_law_names","_law_cell","_law_parties","_law_acts","_law_rooms","_law_k"] ["_law_names","_law_cell"] (z5 xZ):=⟨rfl,rfl,rfl,by decide +kernel,rfl,by decide +kernel,by decide +kernel⟩
set_option maxHeartbeats 400000 in
theorem lx (T:Txt K mg t):qJ P w K mg base jO 2 t.yG t.yQ ["_law_names","_law_cell"] (au K):=by
 have G_w_mix:qJ P w K mg base jO 1 t.yH t.yJ ["_law_cell","_law_k"] lR:=(fh T).mono (by decide)
 refine T.gR.fn.ok vc (fun vs H Q E h=>(by obtain⟨_,_,_,rfl,_⟩:=h;rfl)) (fun cdv A outer s H vs Q E hr h=>?_)
 obtain⟨a,c,cell,rfl,hA,hc,k⟩:=h
 refine⟨_,(z4 (ql (i:=2) vc.nd rfl (Or.inl rfl) (yr (yd (K:=K) rfl) (pv 0) nX (vx (qk xf z3 (qk jz (pv 1) z3)))))
   (z4 (ql (i:=3) vc.nd rfl (Or.inl rfl) (yr (yd (K:=K) rfl) (pv 0) (vx z3) (vx (qk xf z3 (qk jz (qk kB (pv 1) z3) z3)))))
   (z4 (ql (i:=4) vc.nd rfl (Or.inl rfl) (qD z6) vw)
   (z4 (kI PassesOwn.never rfl (kO rfl T.we (z0 (qk xf z3 (qk jz (qk kB (pv 1) z3) z3)) z6)) (jn (i:=5) vc.nd rfl (Or.inl rfl))
    (z7 (jf (kZ PySem.F.plainAttrs_list PySem.F.slot_list_append PySem.F.type_list_append j4 (pv 4) (z0 (xk (z0 (qv (qQ (K:=K) rfl) (qD (z0 z8 (z0 z8 (z0 z8 z6)))) (qk jz (qe G_w_mix hr rfl T.jT.mg T.jT.fn.kp T.jT.bd .nil qW (z0 (pv 1) (z0 (pv 5) z6))) z3) (fun _ _=>rfl)) (z0 (qv (qQ (K:=K) rfl) (pv 0) (qk xf z3 (pv 5)) (fun _ _=>rfl)) z6))) z6)))))
   (z7 (qr (xk (z0 (pv 2) (z0 (pv 3) (z0 (pv 4) z6)))))))))),?_⟩
 have hN:=gw c
 have m0a:0≤cell % 4:=Int.emod_nonneg _ (by decide)
 have m0b:cell % 4 < 4:=Int.emod_lt_of_pos _ (by decide)
 have m1a:0≤cell / 4 % 6:=Int.emod_nonneg _ (by decide)
 have m1b:cell / 4 % 6 < 6:=Int.emod_lt_of_pos _ (by decide)
 have m2a:0≤cell / 24 % 12:=Int.emod_nonneg _ (by decide)
 have m2b:cell / 24 % 12 < 12:=Int.emod_lt_of_pos _ (by decide)
 obtain⟨n0,en0⟩:=Int.eq_ofNat_of_zero_le (show 0≤1 + cell % 4 by omega)
 obtain⟨n1,en1⟩:=Int.eq_ofNat_of_zero_le (show 0≤1 + cell / 4 % 6 by omega)
 obtain⟨n2,en2⟩:=Int.eq_ofNat_of_zero_le (show 0≤1 + cell / 24 % 12 by omega)
 walk_at "rd"
 intro lp H1 s1 hlp e1
 have e1':H1 lp=some (.lst (((NN c).take n0).map V.str)):=by rw[←rV V.str (NN c) n0,←en0];exact e1
 clear e1
 have hA1:=s1.seq hA
 walk_at "rd"
 intro la H2 s2 hla e2
 have e2':H2 la=some (.lst ((((NN c).drop 4).take n1).map V.str)):=by
  rw[←Zx V.str (NN c) 4 n1 (by omega),show ((4 + n1:Nat):Int)=5 + cell / 4 % 6 by omega]
  exact e2
 clear e2
 walk_at "rd"
 intro lr H3 s3 hlr e3
 walk_at "rd"
 have ent:(1 + cell / 24 % 12).toNat=n2:=by omega
 have sA:qx H H3:=(s1.trans s2).trans s3
 have hlr0:H lr=none:=(s1.trans s2).free hlr
 have ne1:lp≠lr:=qb (s2 _ _ e1') hlr
 have ne2:la≠lr:=qb e2' hlr
 refine fW (lo:=0) (n:=(1 + cell / 24 % 12).toNat) (fun i σ H'=>∃(vs:List V) (x9:List (Str × Str)) (v5:Option V),σ=[some (.ref a),some (.int cell),some (.ref lp),some (.ref la),some (.ref lr),v5]∧qx H H'∧H' lr=some (.lst vs)∧H' lp=some (.lst (((NN c).take n0).map V.str))∧H' la=some (.lst ((((NN c).drop 4).take n1).map V.str))∧Paired (bF H') vs x9∧(∀mn∈x9,Je mn)∧x9.map (·.2)=(List.range i).map (fun (j:Nat)=>ka c ((10 + j:Nat):Int)))
  ⟨[],[],none,rfl,sA,e3,s3 _ _ (s2 _ _ e1'),s3 _ _ e2',.nil,fun _ z=>(by cases z),rfl⟩ ?_ ?_
 ·rintro i σ H4 hi ⟨vs,x9,v5,rfl,s4,e4,p4,a4,hP,h4,g4⟩
  rw[ent] at hi
  have hA4:=s4.seq hA
  have x0:0≤wo cell (0 + (i:Int)) % 3:=Int.emod_nonneg _ (by decide)
  have x1:wo cell (0 + (i:Int)) % 3 < 3:=Int.emod_lt_of_pos _ (by decide)
  have hlen:x9.length=i:=by have:=congrArg List.length g4;simpa using this
  have ei:(NN c).getD (10 + (0 + (i:Int))).toNat (Str.ofString "")=ka c ((10 + i:Nat):Int):=by
   rw[show (10 + (0 + (i:Int))).toNat=10 + i by omega];exact ve c (by omega)
  walk_at "rd"
  intro l8 H8 s8 hl8 e8
  have e8':H8 l8=some (.lst (Kl.map V.str)):=e8
  clear e8
  have hA8:=s8.seq hA4
  refine⟨_,rfl,_,rfl,cell,_,rfl,by omega,by omega,?_⟩
  refine⟨_,_,rfl,rfl,(show (0:Int) < 3 by decide),?_⟩
  refine⟨l8,_,_,_,rfl,rfl,qC.of e8',pZ x0 (show _ < (3:Int) from x1),?_⟩
  refine⟨_,rfl,_,rfl,_,_,rfl,rfl,a,_,_,_,rfl,rfl,hA8,pZ (by omega) (by omega),?_⟩
  rw[ei]
  have hm:=J0 (wo cell (0 + (i:Int)) % 3).toNat (by omega)
  walk_at "rd"
  intro q H9 s9 hq e9
  have e49:=s9 _ _ (s8 _ _ e4)
  refine⟨lr,_,_,rfl,rfl,e49,qy (by have:=Paired.length hP;omega),?_⟩
  intro H10 k10 e10
  have hP9:Paired (bF H9) (vs ++ [.ref q]) (x9 ++ [(Kl.getD (wo cell (0 + (i:Int)) % 3).toNat "",ka c ((10 + i:Nat):Int))]):=Paired.snoc (Paired.imp' (fun _ _ z=>z.same (s8.trans s9)) hP) ⟨q,rfl,e9⟩
  refine⟨_,_,_,rfl,k10.put ((s4.trans s8).trans s9) hlr0,e10,k10.look (s9 _ _ (s8 _ _ p4)) ne1,k10.look (s9 _ _ (s8 _ _ a4)) ne2,Paired.imp' (fun _ _ z=>z.keeps k10 e49) hP9,fun mn hmn=>?_,?_⟩
  ·(rcases List.mem_append.mp hmn with q | q)
   ·exact h4 mn q
   ·rw[List.mem_singleton.mp q];exact⟨hm,md c⟩
  ·rw[List.map_append,g4,List.range_succ,List.map_append];rfl
 ·rintro σ H4 ⟨vs,x9,v5,rfl,s4,e4,p4,a4,hP,h4,g4⟩
  rw[ent] at g4
  have hlen:x9.length=n2:=by have:=congrArg List.length g4;simpa using this
  have lps:((NN c).take n0).length=n0:=by rw[List.length_take,hN];omega
  have las:(((NN c).drop 4).take n1).length=n1:=by rw[List.length_take,List.length_drop,hN];omega
  have e0:(NN c).take n0=(List.range n0).map fun (j:Nat)=>ka c (j:Int):=by
   have:=ig c (n:=0) (m:=n0) (by omega)
   rw[List.drop_zero] at this
   rw[this]
   exact List.map_congr_left fun j _=>by rw[Nat.zero_add]
  have e1:=ig c (n:=4) (m:=n1) (by omega)
  have nd:=iT c (n0:=n0) (n1:=n1) (n2:=n2) (by omega) (by omega) (by omega)
  walk_at "rd"
  intro q H5 s5 hq e5
  refine k _ _ x9 q H5 ⟨⟨by omega,by omega,by omega,by omega,by omega,by omega,fun x hx=>?_,fun x hx=>?_,h4,by rw[g4,e0,e1];exact nd⟩,by rw[lps];exact e0,by rw[las];exact e1,by rw[hlen];exact g4⟩ (s4.trans s5) (s4.free hq) ⟨lp,la,lr,vs,e5,s5 _ _ p4,s5 _ _ a4,s5 _ _ e4,Paired.imp' (fun _ _ z=>z.same s5) hP⟩
  ·rw[e0] at hx
   obtain⟨j,_,rfl⟩:=List.mem_map.mp hx
   exact md c
  ·rw[e1] at hx
   obtain⟨j,_,rfl⟩:=List.mem_map.mp hx
   exact md c
end
theorem rM:("let " : Str).cps.toList=("let" : Str).cps.toList ++ [32]∧(" be " : Str).cps.toList=32 :: (("be" : Str).cps.toList ++ [32])∧(" " : Str).cps.toList=[32]∧("must " : Str).cps.toList=("must" : Str).cps.toList ++ [32]∧(" by " : Str).cps.toList=32 :: (("by" : Str).cps.toList ++ [32])∧(" else " : Str).cps.toList=32 :: (("else" : Str).cps.toList ++ [32])∧("may " : Str).cps.toList=("may" : Str).cps.toList ++ [32]∧("may not " : Str).cps.toList=("may" : Str).cps.toList ++ 32 :: (("not" : Str).cps.toList ++ [32])∧("by " : Str).cps.toList=("by" : Str).cps.toList ++ [32]∧(" to " : Str).cps.toList=32 :: (("to" : Str).cps.toList ++ [32]):=by decide +kernel
theorem aj (a b:Str):Str.ofString "let " ++ a ++ Str.ofString " be " ++ b=Ew.row (.lt a b):=by
 obtain⟨h1,h2,h3,h4,h5,h6,h7,h8,h9,h10⟩:=rM
 refine vM ?_
 unfold Ew.row Ew.ws
 rw[join_eq,qZ,qZ,qZ,L2.join_one,cps_append,cps_append,cps_append,h1,h2]
 simp
theorem ax (l w a s r:Str):l ++ Str.ofString " " ++ w ++ Str.ofString " " ++ Str.ofString "must " ++ a ++ Str.ofString " by " ++ s ++ Str.ofString " else " ++ r=Txt.join " " [l,w,"must",a,"by",s,"else",r]:=by
 obtain⟨h1,h2,h3,h4,h5,h6,h7,h8,h9,h10⟩:=rM
 refine vM ?_
 rw[join_eq,qZ,qZ,qZ,qZ,qZ,qZ,qZ,L2.join_one,cps_append,cps_append,cps_append,cps_append,cps_append,cps_append,cps_append,cps_append,cps_append,h3,h4,h5,h6]
 simp
theorem ak (l w a:Str):l ++ Str.ofString " " ++ w ++ Str.ofString " " ++ Str.ofString "may " ++ a=Ew.row (.my l w a):=by
 obtain⟨h1,h2,h3,h4,h5,h6,h7,h8,h9,h10⟩:=rM
 refine vM ?_
 unfold Ew.row Ew.ws
 rw[join_eq,qZ,qZ,qZ,L2.join_one,cps_append,cps_append,cps_append,cps_append,cps_append,h3,h7]
 simp
theorem aq (l w a r:Str):l ++ Str.ofString " " ++ w ++ Str.ofString " " ++ Str.ofString "may not " ++ a ++ Str.ofString " else " ++ r=Ew.row (.bn l w a r):=by
 obtain⟨h1,h2,h3,h4,h5,h6,h7,h8,h9,h10⟩:=rM
 refine vM ?_
 unfold Ew.row Ew.ws
 rw[join_eq,qZ,qZ,qZ,qZ,qZ,qZ,L2.join_one,cps_append,cps_append,cps_append,cps_append,cps_append,cps_append,cps_append,h3,h6,h8]
 simp
theorem av (l w a r:Str):l ++ Str.ofString " " ++ w ++ Str.ofString " " ++ Str.ofString "by " ++ a ++ Str.ofString " to " ++ r=Ew.row (.pw l w a r):=by
 obtain⟨h1,h2,h3,h4,h5,h6,h7,h8,h9,h10⟩:=rM
 refine vM ?_
 unfold Ew.row Ew.ws
 rw[join_eq,qZ,qZ,qZ,qZ,qZ,L2.join_one,cps_append,cps_append,cps_append,cps_append,cps_append,cps_append,cps_append,h3,h9,h10]
 simp
theorem bj {u:Str} (h:tP u):u.length≤8:=by
 rcases h with h | rfl
 ·exact(g9 h).2.1
 ·decide +kernel
theorem qV {u:Str} (h:qG u=true):u.length≤8:=(g9 h).2.1
noncomputable def Qk:Sp:=fun vs H Q _=>∃(v:V) (e:Ew),vs=[v]∧wm H v e∧e.ok∧∀H',qx H H'→Q (.str e.row) H'
section
variable {P:Program} {w:World} {K:PySem.W.Frag} {mg:Str→Option Value} {base:Heap} {t:ja}
theorem d6:qX ["_law_event_here","_law_head"] ["_law_event_here"] (z5 vF):=⟨rfl,rfl,rfl,by decide +kernel,rfl,by decide +kernel,by decide +kernel⟩
set_option maxHeartbeats 400000 in
theorem eo (T:Txt K mg t):qJ P w K mg base jO 1 t.mU t.mD ["_law_event_here"] Qk:=by
 refine T.sq.fn.ok d6 (fun vs H Q E h=>(by obtain⟨_,_,rfl,_⟩:=h;rfl)) (fun cdv A outer s H vs Q E hr h=>?_)
 obtain⟨v,e,rfl,hE,jG,k⟩:=h
 refine⟨_,(z4 (qN (qu jo (qv (qz (K:=K) rfl) (pv 0) z3 (fun _ _=>rfl)) z8 (qi _))
    (z7 (qr z8)) qo)
   (z4 (qN (qu jo (qv (qz (K:=K) rfl) (pv 0) z3 (fun _ _=>rfl)) z8 (qi _))
    (z7 (qr (qk qf (qk qf (qk qf z8 (qv (qz (K:=K) rfl) (pv 0) z3 (fun _ _=>rfl))) z8) (qv (qz (K:=K) rfl) (pv 0) z3 (fun _ _=>rfl))))) qo)
   (z4 (qN (qu jo (qv (qz (K:=K) rfl) (pv 0) z3 (fun _ _=>rfl)) z8 (qi _))
    (z7 (qr (kZ PySem.F.plainAttrs_str PySem.F.slot_str_join PySem.F.type_str_join (gZ (K:=K) rfl) z8 (z0 (qk yR (qk yR (qD (z0 z8 (z0 (qv (qz (K:=K) rfl) (pv 0) z3 (fun _ _=>rfl)) z6))) (qk eK (qD (z0 z8 z6)) (jH vD rfl T.pQ PyProof.Rows.boot_int (z0 (vB (hV (K:=K) rfl hr.units) (qv (qz (K:=K) rfl) (pv 0) z3 (fun _ _=>rfl)) (qD z6) (qi _)) z6)))) (qv (qz (K:=K) rfl) (pv 0) z3 (fun _ _=>rfl))) z6)))) qo)
   (z4 (ql (i:=1) d6.nd rfl (Or.inl rfl) (qk qf (qk qf (qk qf (qv (qz (K:=K) rfl) (pv 0) z3 (fun _ _=>rfl)) z8) (qv (qz (K:=K) rfl) (pv 0) z3 (fun _ _=>rfl))) z8))
   (z4 (qN (qu jo (qv (qz (K:=K) rfl) (pv 0) z3 (fun _ _=>rfl)) z8 (qi _))
    (z4 (ql (i:=1) d6.nd rfl (Or.inl rfl) (qk qf (qk qf (qk qf (pv 1) z8) (qv (qz (K:=K) rfl) (pv 0) z3 (fun _ _=>rfl))) z8))
   (z7 (qr (qk qf (qk qf (qk qf (pv 1) (jH pJ rfl T.iu PyProof.Rows.boot_str (z0 (qv (qz (K:=K) rfl) (pv 0) z3 (fun _ _=>rfl)) z6))) z8) (qv (qz (K:=K) rfl) (pv 0) z3 (fun _ _=>rfl)))))) qo)
   (z4 (qN (qu jo (qv (qz (K:=K) rfl) (pv 0) z3 (fun _ _=>rfl)) z8 (qi _))
    (z7 (qr (qk qf (qk qf (pv 1) z8) (qv (qz (K:=K) rfl) (pv 0) z3 (fun _ _=>rfl))))) qo)
   (z4 (qN (qu jo (qv (qz (K:=K) rfl) (pv 0) z3 (fun _ _=>rfl)) z8 (qi _))
    (z7 (qr (qk qf (qk qf (qk qf (qk qf (pv 1) z8) (qv (qz (K:=K) rfl) (pv 0) z3 (fun _ _=>rfl))) z8) (qv (qz (K:=K) rfl) (pv 0) z3 (fun _ _=>rfl))))) qo)
   (z7 (qr (qk qf (qk qf (qk qf (qk qf (pv 1) z8) (qv (qz (K:=K) rfl) (pv 0) z3 (fun _ _=>rfl))) z8) (qv (qz (K:=K) rfl) (pv 0) z3 (fun _ _=>rfl)))))))))))),?_⟩
 cases e with
 | dn=>
  obtain⟨p,rfl,ep⟩:=hE
  have:=k H (qx.refl _)
  rw[fK] at this
  walk_at "rd"
  exact this
 | lt a b=>
  obtain⟨p,rfl,ep⟩:=hE
  have:=k H (qx.refl _)
  rw[←aj] at this
  have l1:=qV jG.1
  have l2:=qV jG.2
  walk_at "rd"
  exact this
 | mu l w a n r=>
  obtain⟨p,rfl,ep⟩:=hE
  have:=k H (qx.refl _)
  have er:Ew.row (.mu l w a n r)=_:=(ax l w a (Str.ofString (toString n)) r).symm
  rw[er] at this
  have l1:=qV jG.1
  have l2:=qV jG.2.1
  have l3:=qV jG.2.2.1
  have l4:=qV jG.2.2.2.2.2
  have n1:=jG.2.2.2.1
  have n2:=jG.2.2.2.2.1
  have l5:=(mI n1 n2).2.2.2
  have l6:=cI (n:=n) (by omega) (by omega)
  walk_at "rd"
  exact this
 | my l w a=>
  obtain⟨p,rfl,ep⟩:=hE
  have:=k H (qx.refl _)
  rw[←ak] at this
  have l1:=qV jG.1
  have l2:=bj jG.2.1
  have l3:=qV jG.2.2
  walk_at "rd"
  exact this
 | bn l w a r=>
  obtain⟨p,rfl,ep⟩:=hE
  have:=k H (qx.refl _)
  rw[←aq] at this
  have l1:=qV jG.1
  have l2:=bj jG.2.1
  have l3:=qV jG.2.2.1
  have l4:=qV jG.2.2.2
  walk_at "rd"
  exact this
 | pw l w a r=>
  obtain⟨p,rfl,ep⟩:=hE
  have:=k H (qx.refl _)
  rw[←av] at this
  have l1:=qV jG.1
  have l2:=bj jG.2.1
  have l3:=qV jG.2.2.1
  have l4:=qV jG.2.2.2
  walk_at "rd"
  exact this
 | pt n rs=>
  obtain⟨p,q,rfl,ep,eq⟩:=hE
  have hl12:=jG.2.2
  walk_at "rd"
  intro l1 H1 s1 hl1 e1
  walk_at "rd"
  intro l2 H2 s2 hl2 e2
  walk_at "rd"
  intro l3 H3 s3 hl3 e3
  have sh:SeqAt.shaped (.list (rs.map PyData.str))=true:=vn fun y hy=>(dH (jG.2.1 y hy)).ok
  have sh0:SeqAt.shaped (.list (([]:List Str).map PyData.str))=true:=vn (xs:=[]) fun y hy=>by cases hy
  have eq3:=s3 _ _ (s2 _ _ (s1 _ _ eq))
  refine⟨_,_,pf.lst (qC.of eq3) (va.strs rs),pf.lst (qC.of e3) (va.strs []),sh,sh0,?_⟩
  rw[gp]
  refine .inr ⟨_,rfl,?_⟩
  have eb:(if (if true=true then !decide (rs=[]) else decide (rs=[]))=true then (1:Int) else 0)=((if rs=[] then 0 else 1:Nat):Int):=by by_cases z:rs=[]<;>simp [z]
  rw[eb]
  have hm:(if rs=[] then 0 else 1:Nat)≤1:=by split<;>decide
  have ew:(Ew.ws (.pt n rs))=(["part",n]:List Str) ++ List.replicate (if rs=[] then 0 else 1:Nat) ("in" : Str) ++ rs:=by cases rs<;>rfl
  generalize (if rs=[] then 0 else 1:Nat)=m at *
  refine⟨l2,_,_,rfl,rfl,s3 _ _ e2,by omega,by omega,qy (by simp only[List.length_cons,List.length_nil,Int.toNat_natCast];omega),fun q4 hq4=>?_⟩
  have s4:qx H3 (upd H3 q4 (.lst (List.replicate ((m:Nat):Int).toNat [V.str (Str.ofString "in")]).flatten)):=qx.sT hq4
  have e13:=s4 _ _ (s3 _ _ (s2 _ _ e1))
  refine⟨l1,q4,_,_,rfl,rfl,e13,qg,qy (by rw[len_rep];simp only[List.length_cons,List.length_nil,Int.toNat_natCast];omega),?_⟩
  intro l5 H5 s5 hl5 e5
  rw[Int.toNat_natCast,uB] at e5
  have ep5:=s5 _ _ (s4 _ _ (s3 _ _ (s2 _ _ (s1 _ _ ep))))
  have eq5:=s5 _ _ (s4 _ _ eq3)
  walk_at "rd"
  refine⟨l5,q,_,_,rfl,rfl,e5,eq5,qy (by simp only[List.length_append,List.length_cons,List.length_nil,List.length_replicate,List.length_map];omega),?_⟩
  intro l6 H6 s6 hl6 e6
  have e6':H6 l6=some (.lst ((Ew.ws (.pt n rs)).map V.str)):=by
   rw[e6,ew,List.map_append,List.map_append,List.map_replicate]
   rfl
  have ht:=tG (n:=20) (ws:=Ew.ws (.pt n rs)) fun x hx=>(Ew.wk jG x hx).2
  have hwl:(Ew.ws (.pt n rs)).length≤15:=by rw[ew];simp only[List.length_append,List.length_cons,List.length_nil,List.length_replicate];omega
  walk_at "rd"
  refine⟨_,l6,_,rfl,rfl,qC.of e6',by rw[nK];omega,?_⟩
  exact k H6 (((((s1.trans s2).trans s3).trans s4).trans s5).trans s6)
end
theorem Paired.gk {α β:Type} {F:α→β→Prop} {a:α}:∀{xs:List α} {ys:List β} {i:Nat},Paired F xs ys→xs[i]?=some a→∃b,ys[i]?=some b∧F a b
 | _ :: _,_ :: _,0,.cons h t,e=>by cases e;exact⟨_,rfl,h⟩
 | _ :: _,_ :: _,i + 1,.cons h t,e=>Paired.gk (i:=i) t e
theorem take_snoc {α:Type} {xs:List α} {i:Nat} {b:α} (h:xs[i]?=some b):xs.take (i + 1)=xs.take i ++ [b]:=by
 rw[List.take_succ,h];rfl
section
variable {P:Program} {w:World} {K:PySem.W.Frag} {mg:Str→Option Value} {base:Heap} {t:ja}
end
mutual
noncomputable def qh:Rw→List Ew
 | .lt a b=>[.lt a b]
 | .cl k l u a n r=>if k=0 then [.mu l u a n r] else if k=1 then [.my l u a] else if k=2 then [.bn l u a r] else [.pw l u a r]
 | .pt n rs rows=>.pt n rs :: (z9 rows ++ [.dn])
noncomputable def z9:List Rw→List Ew
 | []=>[]
 | r :: rs=>qh r ++ z9 rs
end
mutual
noncomputable def xx:Rw→Nat
 | .lt _ _=>0
 | .cl _ _ _ _ _ _=>0
 | .pt _ _ rows=>qS rows + 1
noncomputable def qS:List Rw→Nat
 | []=>0
 | r :: rs=>max (xx r) (qS rs)
end
mutual
noncomputable def kq:Rw→Prop
 | .lt _ _=>True
 | .cl k _ _ _ _ _=>k=0∨k=1∨k=2∨k=3
 | .pt _ _ rows=>jB rows
noncomputable def jB:List Rw→Prop
 | []=>True
 | r :: rs=>kq r∧jB rs
end
theorem fG {r:Rw} (hr:kq r):∀{a:List Rw},jB a→jB (a ++ [r])
 | [],_=>by rw[List.nil_append,jB,jB];exact⟨hr,True.intro⟩
 | x :: a,h=>by
  rw[jB] at h
  rw[List.cons_append,jB]
  exact⟨h.1,fG hr h.2⟩
theorem vC:∀(a b:List Rw),z9 (a ++ b)=z9 a ++ z9 b
 | [],b=>by rw[List.nil_append,z9,List.nil_append]
 | r :: a,b=>by rw[List.cons_append,z9,z9,vC a b,List.append_assoc]
theorem dw:∀(a b:List Rw),qS (a ++ b)=max (qS a) (qS b)
 | [],b=>by rw[List.nil_append,qS];omega
 | r :: a,b=>by rw[List.cons_append,qS,qS,dw a b];omega
theorem fV (r:Rw):z9 [r]=qh r:=by rw[z9,z9,List.append_nil]
theorem rW (r:Rw):qS [r]=xx r:=by rw[qS,qS];omega
noncomputable def kW:List Fr→List Ew
 | []=>[]
 | (n,rs,rows) :: fr=>(if fr=[] then [] else kW fr ++ [.pt n rs]) ++ z9 rows
noncomputable def cq:List Fr→Prop
 | []=>False
 | (n,rs,rows) :: fr=>qS rows + fr.length≤6∧jB rows∧(if fr=[] then n = "whole"∧rs=[] else cq fr)
theorem cq.len {fr:List Fr} (h:cq fr):fr.length≤7:=by
 match fr,h with
 | (n,rs,rows) :: fr,h=>have:=h.1;simp only[List.length_cons];omega
theorem yl {fr:List Fr} {r:Rw} (h:cq fr) (hd:xx r=0) (hk:kq r):cq (push fr r)∧kW (push fr r)=kW fr ++ qh r:=by
 match fr,h with
 | (n,rs,rows) :: fr,h=>
  refine⟨⟨?_,fG hk h.2.1,h.2.2⟩,?_⟩
  ·rw[dw,rW,hd];have:=h.1;omega
  ·show (if fr=[] then [] else kW fr ++ [.pt n rs]) ++ z9 (rows ++ [r])=((if fr=[] then [] else kW fr ++ [.pt n rs]) ++ z9 rows) ++ qh r
   rw[vC,fV,List.append_assoc]
theorem oR {fr fr':List Fr} {ls ls':List Str} {e:Ew} (h:cq fr) (ht:e.take fr ls=some (fr',ls')):cq fr'∧kW fr'=kW fr ++ [e]:=by
 cases e with
 | lt a b=>
  cases ht
  exact yl h (by rw[xx]) (by rw[kq];exact True.intro)
 | mu l w a n r=>
  rw[Ew.take] at ht
  split at ht
  ·cases ht
  ·cases ht
   have:=yl (r:=.cl 0 l w a n r) h (by rw[xx]) (by rw[kq];simp)
   exact this
 | my l w a=>
  rw[Ew.take] at ht
  split at ht
  ·cases ht
  ·cases ht
   have:=yl (r:=.cl 1 l w a 0 "") h (by rw[xx]) (by rw[kq];simp)
   exact this
 | bn l w a r=>
  rw[Ew.take] at ht
  split at ht
  ·cases ht
  ·cases ht
   have:=yl (r:=.cl 2 l w a 0 r) h (by rw[xx]) (by rw[kq];simp)
   exact this
 | pw l w a r=>
  rw[Ew.take] at ht
  split at ht
  ·cases ht
  ·cases ht
   have:=yl (r:=.cl 3 l w a 0 r) h (by rw[xx]) (by rw[kq];simp)
   exact this
 | pt n rs=>
  rw[Ew.take] at ht
  split at ht
  ·cases ht
  ·rename_i hq
   cases ht
   have hl:=h.len
   have h7:¬fr.length=7:=fun z=>hq (.inl z)
   have hne:fr≠[]:=fun z=>by rw[z] at h;exact h
   refine⟨⟨by rw[qS];omega,by rw[jB];exact True.intro,by rw[if_neg hne];exact h⟩,?_⟩
   show (if fr=[] then [] else kW fr ++ [.pt n rs]) ++ z9 []=_
   rw[if_neg hne,z9,List.append_nil]
 | dn=>
  match fr,h,ht with
  | (n,rs,rows) :: (n2,rs2,rows2) :: fr,h,ht=>
   cases ht
   have h2:cq ((n2,rs2,rows2) :: fr):=by
    have:=h.2.2
    rw[if_neg (by simp)] at this
    exact this
   have h1:=h.1
   have h3:=h2.1
   simp only[List.length_cons] at h1
   refine⟨⟨?_,fG (by rw[kq];exact h.2.1) h2.2.1,h2.2.2⟩,?_⟩
   ·rw[dw,rW,xx];omega
   ·show (if fr=[] then [] else kW fr ++ [.pt n2 rs2]) ++ z9 (rows2 ++ [.pt n rs rows])=((if ((n2,rs2,rows2) :: fr)=[] then [] else kW ((n2,rs2,rows2) :: fr) ++ [.pt n rs]) ++ z9 rows) ++ [.dn]
    rw[if_neg (show ¬((n2,rs2,rows2) :: fr)=[] by simp),vC,fV,qh]
    show _=((((if fr=[] then [] else kW fr ++ [.pt n2 rs2]) ++ z9 rows2) ++ [.pt n rs]) ++ z9 rows) ++ [.dn]
    simp only[List.append_assoc,List.cons_append,List.nil_append]
  | [],h,_=>exact h.elim
  | [f],_,ht=>cases ht
section
variable {P:Program} {w:World} {K:PySem.W.Frag} {mg:Str→Option Value} {base:Heap} {t:ja}
theorem Vb (T:Txt K mg t) {H:Hp} {p:Addr} {k:Int} {l w a:Str} {n:Int} {r:Str} (h:At t H p k l w a n r):kx K H (.ref p) (.ref (vN t k)):=by
 obtain⟨dx,e⟩:=h
 obtain⟨fI,F⟩:=dk T k
 have key:PySem.W.findIn K (.ref (vN t k)) "__class__" = some (some (.builtin "object.__class__"))∧PySem.W.mroIn K (vN t k) (.type "object")=some true:=by
  unfold vN
  split
  ·exact T.nB
  split
  ·exact T.lT
  split
  ·exact T.aV
  split
  ·exact T.lN
  ·exact T.uj
 exact kx.ins e F.cl key.1 T.fD T.cA key.2
end
noncomputable def Vl (k:Int) (l u a:Str) (n:Int) (r:Str):List V:=if k=0 then [.str "must",.str l,.str u,.str a,.int n,.str r] else if k=1 then [.str "may",.str l,.str u,.str a] else if k=2 then [.str "ban",.str l,.str u,.str a,.str r] else [.str "power",.str l,.str u,.str a,.str r]
noncomputable def fE (t:ja):Sp:=fun vs H Q _=>∃(p:Addr) (k:Int) (l u a:Str) (n:Int) (r:Str),vs=[.ref p]∧At t H p k l u a n r∧(k=0∨k=1∨k=2∨k=3)∧∀tp H',qx H H'→H tp=none→H' tp=some (.tup (Vl k l u a n r))→Q (.ref tp) H'
section
variable {P:Program} {w:World} {K:PySem.W.Frag} {mg:Str→Option Value} {base:Heap} {t:ja}
theorem VN (T:Txt K mg t) {H:Hp} {p:Addr} {n m:Str} (h:Qg t H p n m):kx K H (.ref p) (.ref t.vg):=by
 obtain⟨dx,e⟩:=h
 exact kx.ins e T.bS T.tW.1 T.fD T.cA T.tW.2
theorem Qg.fn (T:Txt K mg t) {H:Hp} {p:Addr} {n m:Str} (h:Qg t H p n m):nD K H (.ref p) "name" (.str n):=by
 obtain⟨dx,e⟩:=h
 exact⟨p,_,dx,_,rfl,e,T.bS,T.gK,jE⟩
theorem Qg.fv (T:Txt K mg t) {H:Hp} {p:Addr} {n m:Str} (h:Qg t H p n m):nD K H (.ref p) "value" (.str m):=by
 obtain⟨dx,e⟩:=h
 exact⟨p,_,dx,_,rfl,e,T.bS,T.yD,(qp fun q=>m1 (Eq.symm q)).trans jE⟩
section
variable {H:Hp} {p dx a b:Addr} {n:Str}
theorem rY (T:Txt K mg t) (e:H p=some (.ins t.qa dx (sv n a b))):nD K H (.ref p) "name" (.str n):=⟨p,_,dx,_,rfl,e,T.xY,T.yC,jE⟩
theorem Z3 (T:Txt K mg t) (e:H p=some (.ins t.qa dx (sv n a b))):nD K H (.ref p) "rooms" (.ref a):=⟨p,_,dx,_,rfl,e,T.xY,T.wI,(qp fun q=>m2 (Eq.symm q)).trans jE⟩
theorem nj (T:Txt K mg t) (e:H p=some (.ins t.qa dx (sv n a b))):nD K H (.ref p) "rows" (.ref b):=⟨p,_,dx,_,rfl,e,T.xY,T.yU,(qp fun q=>m3 (Eq.symm q)).trans ((qp fun q=>m4 (Eq.symm q)).trans jE)⟩
end
theorem dB:SeqAt.shaped (.list [])=true:=by decide +kernel
theorem lP:qX ["_law_row_here"] ["_law_row_here"] (z5 xi):=⟨rfl,rfl,rfl,by decide +kernel,rfl,by decide +kernel,by decide +kernel⟩
set_option maxHeartbeats 400000 in
theorem mr (T:Txt K mg t):qJ P w K mg base jO 1 t.wz t.vI ["_law_row_here"] (fE t):=by
 refine T.vi.fn.ok lP (fun vs H Q E h=>(by obtain⟨_,_,_,_,_,_,_,rfl,_⟩:=h;rfl)) (fun cdv A outer s H vs Q E hr h=>?_)
 obtain⟨p,k,l,u,a,n,r,rfl,hA,hk,kk⟩:=h
 refine⟨_,(z4 (qN (xV (qU (qL (K:=K) rfl) rfl T.qM PyProof.Rows.boot_isinstance (z0 (pv 0) (z0 (wY rfl T.sV (v:=.ref t.jI) rfl) z6))))
    (z4 (qN (PW.pt (bP (yz (xV (qU (qL (K:=K) rfl) rfl T.qM PyProof.Rows.boot_isinstance (z0 (qP (K:=K) rfl (pv 0) rfl) (z0 (yL rfl T.pQ PyProof.Rows.boot_int (v:=.ty "int") rfl) z6))))) (yq (xV (qU (qL (K:=K) rfl) rfl T.qM PyProof.Rows.boot_isinstance (z0 (qP (K:=K) rfl (pv 0) rfl) (z0 (yL rfl T.su PyProof.Rows.boot_bool (v:=.ty "bool") rfl) z6)))))))
    (z7 (qr (xk z6))) qo)
   (z7 (qr (xk (z0 z8 (z0 (qP (K:=K) rfl (pv 0) rfl) (z0 (qP (K:=K) rfl (pv 0) rfl) (z0 (qP (K:=K) rfl (pv 0) rfl) (z0 (qP (K:=K) rfl (pv 0) rfl) (z0 (qP (K:=K) rfl (pv 0) rfl) z6)))))))))) qo)
   (z4 (qN (xV (qU (qL (K:=K) rfl) rfl T.qM PyProof.Rows.boot_isinstance (z0 (pv 0) (z0 (wY rfl T.i6 (v:=.ref t.xB) rfl) z6))))
    (z7 (qr (xk (z0 z8 (z0 (qP (K:=K) rfl (pv 0) rfl) (z0 (qP (K:=K) rfl (pv 0) rfl) (z0 (qP (K:=K) rfl (pv 0) rfl) (z0 (qP (K:=K) rfl (pv 0) rfl) z6)))))))) qo)
   (z4 (qN (xV (qU (qL (K:=K) rfl) rfl T.qM PyProof.Rows.boot_isinstance (z0 (pv 0) (z0 (wY rfl T.ua (v:=.ref t.jb) rfl) z6))))
    (z7 (qr (xk (z0 z8 (z0 (qP (K:=K) rfl (pv 0) rfl) (z0 (qP (K:=K) rfl (pv 0) rfl) (z0 (qP (K:=K) rfl (pv 0) rfl) (z0 (qP (K:=K) rfl (pv 0) rfl) z6)))))))) qo)
   (z4 (qN (xV (qU (qL (K:=K) rfl) rfl T.qM PyProof.Rows.boot_isinstance (z0 (pv 0) (z0 (wY rfl T.mN (v:=.ref t.jh) rfl) z6))))
    (z7 (qr (xk (z0 z8 (z0 (qP (K:=K) rfl (pv 0) rfl) (z0 (qP (K:=K) rfl (pv 0) rfl) (z0 (qP (K:=K) rfl (pv 0) rfl) z6))))))) qo)
   (z7 (qr (xk z6))))))),?_⟩
 have ty:kx K H (.ref p) (.ref (vN t k)):=Vb T hA
 rcases hk with rfl | rfl | rfl | rfl
 ·refine⟨_,rfl,_,_,_,_,rfl,.inr ⟨_,rfl⟩,ty,T.pM,_,rfl,rP ?_⟩
  walk_at "rd"
  refine⟨_,_,.type "int",false,rfl,.inl ⟨_,rfl⟩,kx.int _,T.gs,_,rfl,pP ?_⟩
  walk_at "rd"
  intro tp H1 s1 h1 e1
  exact kk tp H1 s1 h1 e1
 ·refine⟨_,rfl,_,_,_,_,rfl,.inr ⟨_,rfl⟩,ty,T.br,_,rfl,pP ?_⟩
  refine⟨_,rfl,_,_,_,_,rfl,.inr ⟨_,rfl⟩,ty,T.pC,_,rfl,pP ?_⟩
  refine⟨_,rfl,_,_,_,_,rfl,.inr ⟨_,rfl⟩,ty,T.gc,_,rfl,pP ?_⟩
  refine⟨_,rfl,_,_,_,_,rfl,.inr ⟨_,rfl⟩,ty,T.gd,_,rfl,rP ?_⟩
  walk_at "rd"
  intro tp H1 s1 h1 e1
  exact kk tp H1 s1 h1 e1
 ·refine⟨_,rfl,_,_,_,_,rfl,.inr ⟨_,rfl⟩,ty,T.mz,_,rfl,pP ?_⟩
  refine⟨_,rfl,_,_,_,_,rfl,.inr ⟨_,rfl⟩,ty,T.dr,_,rfl,rP ?_⟩
  walk_at "rd"
  intro tp H1 s1 h1 e1
  exact kk tp H1 s1 h1 e1
 ·refine⟨_,rfl,_,_,_,_,rfl,.inr ⟨_,rfl⟩,ty,T.bZ,_,rfl,pP ?_⟩
  refine⟨_,rfl,_,_,_,_,rfl,.inr ⟨_,rfl⟩,ty,T.pU,_,rfl,pP ?_⟩
  refine⟨_,rfl,_,_,_,_,rfl,.inr ⟨_,rfl⟩,ty,T.gr,_,rfl,rP ?_⟩
  walk_at "rd"
  intro tp H1 s1 h1 e1
  exact kk tp H1 s1 h1 e1
end
theorem yg {K:PySem.W.Frag} {a:Addr} {xs:List V} {E:L2.St→Hp→Prop} {B:V→L2.St→Hp→(L2.St→Hp→Prop)→Prop} {σ:L2.St} {H:Hp} (Pv:Nat→L2.St→Hp→Prop) (h0:Pv 0 σ H) (hl:∀i σ H,i≤xs.length→Pv i σ H→qC K H a xs)
  (hs:∀i x σ H,xs[i]?=some x→Pv i σ H→B x σ H (Pv (i + 1))) (hd:∀σ H,Pv xs.length σ H→E σ H) :
  ∃W:Nat→Nat→L2.St→Hp→Prop,(∃m,W 0 m σ H)∧∀i m σ H,W i m σ H→
   ((aL K a).stop i H∧E σ H)∨((aL K a).go i H∧∃N:L2.St→Hp→Prop,(∀σ' H',N σ' H'→∃m',m' < m∧W (i + 1) m' σ' H')∧∀x H',(aL K a).aD i H x H'→B x σ H' N):=by
 (refine⟨fun i m σ H=>m=xs.length - i∧i≤xs.length∧Pv i σ H,⟨xs.length,by simp,Nat.zero_le _,h0⟩,?_⟩)
 rintro i m σ H ⟨rfl,hi,p⟩
 have q:=hl i σ H hi p
 by_cases hlt:i < xs.length
 ·(refine .inr ⟨⟨xs,xs[i],q,by simp [hlt]⟩,Pv (i + 1),fun σ' H' p'=>⟨xs.length - (i + 1),by omega,rfl,hlt,p'⟩,fun x H' y=>?_⟩)
  obtain⟨e,y⟩:=y
  subst e
  exact hs i x σ _ (y xs q) p
 ·(have e:i=xs.length:=by omega)
  subst e
  (exact .inl ⟨⟨xs,q,Nat.le_refl _⟩,hd σ H p⟩)
noncomputable def XU (ms:List Addr) (H:Hp) (v:V):Ew→Prop
 | .pt n rs=>∃p q,v=.ref p∧H p=some (.tup [.str "part",.str n,.ref q])∧H q=some (.lst (rs.map V.str))∧q∉ms
 | .lt a b=>wm H v (.lt a b)
 | .mu l w a n r=>wm H v (.mu l w a n r)
 | .my l w a=>wm H v (.my l w a)
 | .bn l w a r=>wm H v (.bn l w a r)
 | .pw l w a r=>wm H v (.pw l w a r)
 | .dn=>wm H v .dn
theorem XU.ev {ms:List Addr} {H:Hp} {v:V} {e:Ew} (h:XU ms H v e):wm H v e:=by
 cases e with
 | pt n rs=>obtain⟨p,q,e,h1,h2,_⟩:=h;exact⟨p,q,e,h1,h2⟩
 | lt a b=>exact h
 | mu l w a n r=>exact h
 | my l w a=>exact h
 | bn l w a r=>exact h
 | pw l w a r=>exact h
 | dn=>exact h
theorem Z2 {ms:List Addr} {H:Hp} {tp:Addr} {k:Int} {l u a:Str} {n:Int} {r:Str} (hk:k=0∨k=1∨k=2∨k=3) (h:H tp=some (.tup (Vl k l u a n r))):Paired (XU ms H) [.ref tp] (qh (.cl k l u a n r)):=by
 rcases hk with rfl | rfl | rfl | rfl
 ·rw[qh];exact .cons ⟨tp,rfl,h⟩ .nil
 ·rw[qh];exact .cons ⟨tp,rfl,h⟩ .nil
 ·rw[qh];exact .cons ⟨tp,rfl,h⟩ .nil
 ·rw[qh];exact .cons ⟨tp,rfl,h⟩ .nil
theorem qt.gk {t:ja} {ms:List Addr} {H:Hp}:∀{rs:List Rw} {ys:List V} {i:Nat} {y:V},qt t ms H rs ys→ys[i]?=some y→∃r,rs[i]?=some r∧qF t ms H r y
 | [],ys,i,y,h,e=>by unfold qt at h;subst h;cases e
 | r :: rs,ys,0,y,h,e=>by
  unfold qt at h
  obtain⟨y',ys',rfl,h1,h2⟩:=h
  cases e
  exact⟨r,rfl,h1⟩
 | r :: rs,ys,i + 1,y,h,e=>by
  unfold qt at h
  obtain⟨y',ys',rfl,h1,h2⟩:=h
  exact qt.gk (i:=i) h2 e
theorem jB.gk {r:Rw}:∀{rs:List Rw} {i:Nat},jB rs→rs[i]?=some r→kq r
 | [],i,h,e=>by cases e
 | x :: rs,0,h,e=>by cases e;rw[jB] at h;exact h.1
 | x :: rs,i + 1,h,e=>by rw[jB] at h;exact jB.gk (i:=i) h.2 e
theorem gh {r:Rw}:∀{rs:List Rw} {i:Nat},rs[i]?=some r→xx r≤qS rs
 | [],i,e=>by cases e
 | x :: rs,0,e=>by cases e;rw[qS];omega
 | x :: rs,i + 1,e=>by rw[qS];have:=gh (rs:=rs) (i:=i) e;omega
theorem gf {r:Rw} {rs:List Rw} {i:Nat} (h:rs[i]?=some r):z9 (rs.take (i + 1))=z9 (rs.take i) ++ qh r:=by rw[take_snoc h,vC,fV]
theorem pG {rs:List Rw} (i:Nat):(z9 (rs.take i)).length≤(z9 rs).length:=by
 have:=congrArg (fun z=>(z9 z).length) (List.take_append_drop i rs)
 simp only[vC,List.length_append] at this
 omega
noncomputable def Yj (t:ja):Nat→Sp
 | 0=>fun _ _ _ _=>False
 | n + 1=>fun vs H Q _=>∃(ms:List Addr) (b:Addr) (ys:List V) (rows:List Rw),vs=[.ref b]∧H b=some (.lst ys)∧qt t ms H rows ys∧b∉ms∧qS rows≤n∧jB rows∧(z9 rows).length≤100∧∀l H' ws,qx H H'→H l=none→H' l=some (.lst ws)→Paired (XU ms H') ws (z9 rows)→Q (.ref l) H'
section
variable {P:Program} {w:World} {K:PySem.W.Frag} {mg:Str→Option Value} {base:Heap} {t:ja}
end
noncomputable def pK:Ew→PyData
 | .lt a b=>.tuple [.str "let",.str a,.str b]
 | .mu l w a n r=>.tuple [.str "must",.str l,.str w,.str a,.int n,.str r]
 | .my l w a=>.tuple [.str "may",.str l,.str w,.str a]
 | .bn l w a r=>.tuple [.str "ban",.str l,.str w,.str a,.str r]
 | .pw l w a r=>.tuple [.str "power",.str l,.str w,.str a,.str r]
 | .pt n rs=>.tuple [.str "part",.str n,.list (rs.map PyData.str)]
 | .dn=>.tuple [.str "done"]
theorem wm.rd {K:PySem.W.Frag} {H:Hp} {v:V} {e:Ew} (h:wm H v e):pf K H v (pK e):=by
 cases e with
 | pt n rs=>obtain⟨p,q,rfl,h1,h2⟩:=h;exact .tup (kU.of h1) (.cons (.str _) (.cons (.str _) (.cons (.lst (qC.of h2) (va.strs _)) .nil)))
 | lt a b=>obtain⟨p,rfl,h⟩:=h;exact .tup (kU.of h) (.cons (.str _) (.cons (.str _) (.cons (.str _) .nil)))
 | mu l w a n r=>obtain⟨p,rfl,h⟩:=h;exact .tup (kU.of h) (.cons (.str _) (.cons (.str _) (.cons (.str _) (.cons (.str _) (.cons (.int _) (.cons (.str _) .nil))))))
 | my l w a=>obtain⟨p,rfl,h⟩:=h;exact .tup (kU.of h) (.cons (.str _) (.cons (.str _) (.cons (.str _) (.cons (.str _) .nil))))
 | bn l w a r=>obtain⟨p,rfl,h⟩:=h;exact .tup (kU.of h) (.cons (.str _) (.cons (.str _) (.cons (.str _) (.cons (.str _) (.cons (.str _) .nil)))))
 | pw l w a r=>obtain⟨p,rfl,h⟩:=h;exact .tup (kU.of h) (.cons (.str _) (.cons (.str _) (.cons (.str _) (.cons (.str _) (.cons (.str _) .nil)))))
 | dn=>obtain⟨p,rfl,h⟩:=h;exact .tup (kU.of h) (.cons (.str _) .nil)
theorem dy {K:PySem.W.Frag} {H:Hp}:∀{ws:List V} {evs:List Ew},Paired (wm H) ws evs→va K H ws (evs.map pK)
 | _,_,.nil=>.nil
 | _,_,.cons h t=>.cons h.rd (dy t)
theorem mj:∀x∈(["let","must","may","ban","power","part","done","any","calm","sore","end"]:List Str),PyData.strOk x=true:=by decide +kernel
theorem uJ {x:Str} (h:qG x=true):PyData.strOk x=true:=(dH h).ok
theorem Vp {x:Str} (h:tP x):PyData.strOk x=true:=by
 rcases h with h | rfl
 ·exact uJ h
 ·exact mj _ (by simp)
theorem Zg {e:Ew} (h:e.ok):PyData.canLay0 (pK e)=true∧PyData.depth (pK e)≤2:=by
 cases e with
 | lt a b=>simp [PyData.canLay0,PyData.canLayAll0,PyData.depth,PyData.depthAll,pK,uJ h.1,uJ h.2,mj]
 | mu l w a n r=>simp [PyData.canLay0,PyData.canLayAll0,PyData.depth,PyData.depthAll,pK,uJ h.1,uJ h.2.1,uJ h.2.2.1,uJ h.2.2.2.2.2,mj]
 | my l w a=>simp [PyData.canLay0,PyData.canLayAll0,PyData.depth,PyData.depthAll,pK,uJ h.1,Vp h.2.1,uJ h.2.2,mj]
 | bn l w a r=>simp [PyData.canLay0,PyData.canLayAll0,PyData.depth,PyData.depthAll,pK,uJ h.1,Vp h.2.1,uJ h.2.2.1,uJ h.2.2.2,mj]
 | pw l w a r=>simp [PyData.canLay0,PyData.canLayAll0,PyData.depth,PyData.depthAll,pK,uJ h.1,Vp h.2.1,uJ h.2.2.1,uJ h.2.2.2,mj]
 | pt n rs=>
  have q:=gy rs fun x hx=>uJ (h.2.1 x hx)
  simp [PyData.canLay0,PyData.canLayAll0,PyData.depth,PyData.depthAll,pK,uJ h.1,q.1,q.2,mj]
 | dn=>simp [PyData.canLay0,PyData.canLayAll0,PyData.depth,PyData.depthAll,pK,mj]
theorem t9:∀{evs:List Ew},(∀e∈evs,e.ok)→PyData.canLayAll0 (evs.map pK)=true∧PyData.depthAll (evs.map pK)≤2
 | [],_=>⟨rfl,Nat.zero_le _⟩
 | e :: r,h=>by
  have q:=t9 fun x hx=>h x (List.mem_cons_of_mem _ hx)
  have z:=Zg (h e List.mem_cons_self)
  rw[List.map_cons,PyData.canLayAll0,PyData.depthAll,q.1,z.1]
  exact⟨rfl,by omega⟩
theorem yV {evs:List Ew} (h:∀e∈evs,e.ok):SeqAt.shaped (.list (evs.map pK))=true:=by
 have q:=t9 h
 unfold SeqAt.shaped
 rw[PyData.canLay0,PyData.depth,q.1]
 simp only[Bool.true_and]
 (exact decide_eq_true (by omega))
theorem Zy (e:Ew):PyData.eqv (pK e) (pK e)=true:=by
 cases e with
 | pt n rs=>
  have q:=gb rs rs
  simp [PyData.eqv,PyData.eqvAll,pK,q]
 | lt a b=>simp [PyData.eqv,PyData.eqvAll,pK]
 | mu l w a n r=>simp [PyData.eqv,PyData.eqvAll,pK]
 | my l w a=>simp [PyData.eqv,PyData.eqvAll,pK]
 | bn l w a r=>simp [PyData.eqv,PyData.eqvAll,pK]
 | pw l w a r=>simp [PyData.eqv,PyData.eqvAll,pK]
 | dn=>simp [PyData.eqv,PyData.eqvAll,pK]
theorem uc:∀(evs:List Ew),PyData.eqvAll (evs.map pK) (evs.map pK)=true
 | []=>by simp [PyData.eqvAll]
 | e :: r=>by rw[List.map_cons,PyData.eqvAll,Zy,uc r];rfl
section
variable {P:Program} {w:World} {K:PySem.W.Frag} {mg:Str→Option Value} {base:Heap} {t:ja}
end
noncomputable def gx (k:Int) (a:Str) (n:Int) (r:Str):Str:=
 if k=0 then ("must " : Str) ++ a ++ (" by " : Str) ++ Str.ofString (toString n) ++ (" else " : Str) ++ r
 else if k=1 then ("may " : Str) ++ a
 else if k=2 then ("may not " : Str) ++ a ++ (" else " : Str) ++ r
 else ("by " : Str) ++ a ++ (" to " : Str) ++ r
noncomputable def Ka (k:Int) (l u a:Str) (n:Int) (r:Str):Prop:=(k=0∨k=1∨k=2∨k=3)∧∀e∈qh (.cl k l u a n r),e.ok
theorem dt:("must " : Str)=("must" : Str) ++ (" " : Str)∧(" by " : Str)=(" " : Str) ++ (("by" : Str) ++ (" " : Str))∧(" else " : Str)=(" " : Str) ++ (("else" : Str) ++ (" " : Str))∧("may not " : Str)=("may" : Str) ++ ((" " : Str) ++ (("not" : Str) ++ (" " : Str)))∧("by " : Str)=("by" : Str) ++ (" " : Str)∧(" to " : Str)=(" " : Str) ++ (("to" : Str) ++ (" " : Str)):=by decide +kernel
theorem XB (a s r:Str):Txt.join (" " : Str) ["must",a,"by",s,"else",r]=("must " : Str) ++ a ++ (" by " : Str) ++ s ++ (" else " : Str) ++ r:=by
 rw[join_eq,dt.1,dt.2.1,dt.2.2.1]
 simp only[L2.pF,L2.join_one,kA]
theorem XF (a r:Str):Txt.join (" " : Str) ["may","not",a,"else",r]=("may not " : Str) ++ a ++ (" else " : Str) ++ r:=by
 rw[join_eq,dt.2.2.1,dt.2.2.2.1]
 simp only[L2.pF,L2.join_one,kA]
theorem tail3 (a r:Str):Txt.join (" " : Str) ["by",a,"to",r]=("by " : Str) ++ a ++ (" to " : Str) ++ r:=by
 rw[join_eq,dt.2.2.2.2.1,dt.2.2.2.2.2]
 simp only[L2.pF,L2.join_one,kA]
structure VI (k:Int) (l u a:Str) (n:Int) (r:Str) (e:Ew):Prop where
 fl:qh (.cl k l u a n r)=[e]
 ok:e.ok
 ll:l.length≤8
 lu:u.length≤8
 la:a.length≤8
 lr:k≠1→r.length≤8
 n1:k=0→1≤n∧n < 10 ^ 20
 row:l ++ (" " : Str) ++ u ++ (" " : Str) ++ gx k a n r=e.row
 lt:(gx k a n r).length≤90
 ne:gx k a n r≠""
theorem nP {x y:Str} (h:1≤x.length) (e:y=x):y≠"":=fun z=>by
 have:("" : Str).length=0:=by decide +kernel
 rw[←e,z,this] at h
 omega
theorem Jj:("must " : Str).length=5∧(" by " : Str).length=4∧(" else " : Str).length=6∧("may " : Str).length=4∧("may not " : Str).length=8∧("by " : Str).length=3∧(" to " : Str).length=4:=by decide +kernel
theorem JW {k:Int} {l u a:Str} {n:Int} {r:Str} (h:Ka k l u a n r):∃e,VI k l u a n r e:=by
 obtain⟨hk,ho⟩:=h
 obtain⟨e1,e2,e3,e4,e5,e6,e7⟩:=Jj
 rcases hk with rfl | rfl | rfl | rfl
 ·have f:qh (.cl 0 l u a n r)=[.mu l u a n r]:=by rw[qh,if_pos rfl]
  have o:=ho (.mu l u a n r) (by rw[f];simp)
  have q:gx 0 a n r=("must " : Str) ++ a ++ (" by " : Str) ++ Str.ofString (toString n) ++ (" else " : Str) ++ r:=rfl
  have la:=qV o.2.2.1;have lr:=qV o.2.2.2.2.2;have ln:=(mI o.2.2.2.1 o.2.2.2.2.1).2.2.2
  exact⟨_,f,o,qV o.1,qV o.2.1,la,fun _=>lr,fun _=>⟨o.2.2.2.1,o.2.2.2.2.1⟩,by rw[q];have:=ax l u a (Str.ofString (toString n)) r;simp only[kA] at this ⊢;exact this,by rw[q];simp only[jr];omega,nP (x:=gx 0 a n r) (by rw[q];simp only[jr];omega) rfl⟩
 ·have f:qh (.cl 1 l u a n r)=[.my l u a]:=by rw[qh,if_neg (by decide),if_pos rfl]
  have o:=ho (.my l u a) (by rw[f];simp)
  have q:gx 1 a n r=("may " : Str) ++ a:=rfl
  have la:=qV o.2.2
  exact⟨_,f,o,qV o.1,bj o.2.1,la,fun z=>absurd rfl z,fun z=>absurd z (by decide),by rw[q];have:=ak l u a;simp only[kA] at this ⊢;exact this,by rw[q];simp only[jr];omega,nP (x:=gx 1 a n r) (by rw[q];simp only[jr];omega) rfl⟩
 ·have f:qh (.cl 2 l u a n r)=[.bn l u a r]:=by rw[qh,if_neg (by decide),if_neg (by decide),if_pos rfl]
  have o:=ho (.bn l u a r) (by rw[f];simp)
  have q:gx 2 a n r=("may not " : Str) ++ a ++ (" else " : Str) ++ r:=rfl
  have la:=qV o.2.2.1;have lr:=qV o.2.2.2
  exact⟨_,f,o,qV o.1,bj o.2.1,la,fun _=>lr,fun z=>absurd z (by decide),by rw[q];have:=aq l u a r;simp only[kA] at this ⊢;exact this,by rw[q];simp only[jr];omega,nP (x:=gx 2 a n r) (by rw[q];simp only[jr];omega) rfl⟩
 ·have f:qh (.cl 3 l u a n r)=[.pw l u a r]:=by rw[qh,if_neg (by decide),if_neg (by decide),if_neg (by decide)]
  have o:=ho (.pw l u a r) (by rw[f];simp)
  have q:gx 3 a n r=("by " : Str) ++ a ++ (" to " : Str) ++ r:=rfl
  have la:=qV o.2.2.1;have lr:=qV o.2.2.2
  exact⟨_,f,o,qV o.1,bj o.2.1,la,fun _=>lr,fun z=>absurd z (by decide),by rw[q];have:=av l u a r;simp only[kA] at this ⊢;exact this,by rw[q];simp only[jr];omega,nP (x:=gx 3 a n r) (by rw[q];simp only[jr];omega) rfl⟩
noncomputable def aZ (t:ja) (k:Int):Sp:=fun vs H Q _=>∃(p:Addr) (l u a:Str) (n:Int) (r:Str),vs=[.ref p]∧At t H p k l u a n r∧Ka k l u a n r∧∀H',qx H H'→Q (.str (gx k a n r)) H'
noncomputable def Xb (t:ja) (k:Int):Sp:=fun vs H Q _=>∃(p:Addr) (l u a:Str) (n:Int) (r:Str),vs=[.ref p]∧At t H p k l u a n r∧Ka k l u a n r∧∀q H',qx H H'→H q=none→H' q=some (.lst ((qh (.cl k l u a n r)).map fun e=>V.str e.row))→Q (.ref q) H'
noncomputable def Xd (t:ja):Sp:=fun vs H Q _=>∃(p:Addr) (n v:Str),vs=[.ref p]∧Qg t H p n v∧(Ew.lt n v).ok∧∀q H',qx H H'→H q=none→H' q=some (.lst ((qh (.lt n v)).map fun e=>V.str e.row))→Q (.ref q) H'
section
variable {P:Program} {w:World} {K:PySem.W.Frag} {mg:Str→Option Value} {base:Heap} {t:ja}
theorem cc:qX ["self"] ["self"] (z5 jC):=⟨rfl,rfl,rfl,by decide +kernel,rfl,by decide +kernel,by decide +kernel⟩
set_option maxHeartbeats 400000 in
theorem cg (T:Txt K mg t):qJ P w K mg base jO 1 t.vY t.yo ["self"] (aZ t 1):=by
 refine T.bD.fn.ok cc (fun vs H Q E h=>(by obtain⟨_,_,_,_,_,_,rfl,_⟩:=h;rfl)) (fun cdv A outer s H vs Q E hr h=>?_)
 obtain⟨p,l,u,a,n,r,rfl,hA,c,k⟩:=h
 refine⟨_,(z7 (qr (qk qf z8 (qP (K:=K) rfl (pv 0) rfl)))),?_⟩
 obtain⟨e,z⟩:=JW c
 have la:=z.la
 walk_at "rd"
 exact k H (qx.refl H)
theorem uU:qX ["self"] ["self"] (z5 j7):=⟨rfl,rfl,rfl,by decide +kernel,rfl,by decide +kernel,by decide +kernel⟩
set_option maxHeartbeats 400000 in
theorem uK (T:Txt K mg t):qJ P w K mg base jO 1 t.wQ t.gg ["self"] (aZ t 0):=by
 refine T.fQ.fn.ok uU (fun vs H Q E h=>(by obtain⟨_,_,_,_,_,_,rfl,_⟩:=h;rfl)) (fun cdv A outer s H vs Q E hr h=>?_)
 obtain⟨p,l,u,a,n,r,rfl,hA,c,k⟩:=h
 refine⟨_,(z7 (qr (kZ PySem.F.plainAttrs_str PySem.F.slot_str_join PySem.F.type_str_join (gZ (K:=K) rfl) z8 (z0 (qD (z0 z8 (z0 (qP (K:=K) rfl (pv 0) rfl) (z0 z8 (z0 (jH pJ rfl T.iu PyProof.Rows.boot_str (z0 (qP (K:=K) rfl (pv 0) rfl) z6)) (z0 z8 (z0 (qP (K:=K) rfl (pv 0) rfl) z6))))))) z6)))),?_⟩
 obtain⟨e,z⟩:=JW c
 have la:=z.la
 have lr:=z.lr (by decide)
 obtain⟨g1,g2⟩:=z.n1 rfl
 have ln:=(mI g1 g2).2.2.2
 walk_at "rd"
 refine⟨cI (by omega) (by omega),?_⟩
 walk_at "rd"
 intro lj H1 s1 hlj e1
 refine⟨_,lj,["must",a,"by",Str.ofString (toString n),"else",r],rfl,rfl,qC.of e1,?_,?_⟩
 ·have e:("must" : Str).length=4∧("by" : Str).length=2∧("else" : Str).length=4∧(" " : Str).length=1:=by decide +kernel
  simp only[List.map_cons,List.map_nil,List.sum_cons,List.sum_nil,List.length_cons,List.length_nil]
  omega
 rw[XB]
 exact k H1 s1
theorem lW:qX ["self"] ["self"] (z5 xn):=⟨rfl,rfl,rfl,by decide +kernel,rfl,by decide +kernel,by decide +kernel⟩
set_option maxHeartbeats 400000 in
theorem rE (T:Txt K mg t):qJ P w K mg base jO 1 t.yW t.bT ["self"] (aZ t 2):=by
 refine T.dz.fn.ok lW (fun vs H Q E h=>(by obtain⟨_,_,_,_,_,_,rfl,_⟩:=h;rfl)) (fun cdv A outer s H vs Q E hr h=>?_)
 obtain⟨p,l,u,a,n,r,rfl,hA,c,k⟩:=h
 refine⟨_,(z7 (qr (kZ PySem.F.plainAttrs_str PySem.F.slot_str_join PySem.F.type_str_join (gZ (K:=K) rfl) z8 (z0 (qD (z0 z8 (z0 z8 (z0 (qP (K:=K) rfl (pv 0) rfl) (z0 z8 (z0 (qP (K:=K) rfl (pv 0) rfl) z6)))))) z6)))),?_⟩
 obtain⟨e,z⟩:=JW c
 have la:=z.la
 have lr:=z.lr (by decide)
 walk_at "rd"
 intro lj H1 s1 hlj e1
 refine⟨_,lj,["may","not",a,"else",r],rfl,rfl,qC.of e1,?_,?_⟩
 ·have e:("may" : Str).length=3∧("not" : Str).length=3∧("else" : Str).length=4∧(" " : Str).length=1:=by decide +kernel
  simp only[List.map_cons,List.map_nil,List.sum_cons,List.sum_nil,List.length_cons,List.length_nil]
  omega
 rw[XF]
 exact k H1 s1
theorem cZ:qX ["self"] ["self"] (z5 jR):=⟨rfl,rfl,rfl,by decide +kernel,rfl,by decide +kernel,by decide +kernel⟩
set_option maxHeartbeats 400000 in
theorem cf (T:Txt K mg t):qJ P w K mg base jO 1 t.vG t.ye ["self"] (aZ t 3):=by
 refine T.bR.fn.ok cZ (fun vs H Q E h=>(by obtain⟨_,_,_,_,_,_,rfl,_⟩:=h;rfl)) (fun cdv A outer s H vs Q E hr h=>?_)
 obtain⟨p,l,u,a,n,r,rfl,hA,c,k⟩:=h
 refine⟨_,(z7 (qr (kZ PySem.F.plainAttrs_str PySem.F.slot_str_join PySem.F.type_str_join (gZ (K:=K) rfl) z8 (z0 (qD (z0 z8 (z0 (qP (K:=K) rfl (pv 0) rfl) (z0 z8 (z0 (qP (K:=K) rfl (pv 0) rfl) z6))))) z6)))),?_⟩
 obtain⟨e,z⟩:=JW c
 have la:=z.la
 have lr:=z.lr (by decide)
 walk_at "rd"
 intro lj H1 s1 hlj e1
 refine⟨_,lj,["by",a,"to",r],rfl,rfl,qC.of e1,?_,?_⟩
 ·have e:("by" : Str).length=2∧("to" : Str).length=2∧(" " : Str).length=1:=by decide +kernel
  simp only[List.map_cons,List.map_nil,List.sum_cons,List.sum_nil,List.length_cons,List.length_nil]
  omega
 rw[tail3]
 exact k H1 s1
theorem ZL (T:Txt K mg t) {k:Int} (hk:k=0∨k=1∨k=2∨k=3) (m:Nat):yt P w K mg base jO (m + 1) (vN t k) "tail" (aZ t k):=by
 rcases hk with rfl | rfl | rfl | rfl
 ·exact .mk' T.pS (uK T) T.fQ.bd (by omega)
 ·exact .mk' T.bJ (cg T) T.bD.bd (by omega)
 ·exact .mk' T.mv (rE T) T.dz.bd (by omega)
 ·exact .mk' T.bX (cf T) T.bR.bd (by omega)
theorem rf (T:Txt K mg t) {k:Int} (hk:k=0∨k=1∨k=2∨k=3):qJ P w K mg base jO 2 t.jy t.km ["self"] (Xb t k):=by
 refine T.jN.fn.ok (⟨rfl,rfl,rfl,by decide +kernel,rfl,by decide +kernel,by decide +kernel⟩:qX ["self","row","tail"] ["self"] (z5 qB)) (fun vs H Q E h=>by obtain⟨_,_,_,_,_,_,rfl,_⟩:=h;rfl) (fun cdv A outer s H vs Q E hr h=>?_)
 obtain⟨p,l,u,a,n,r,rfl,hA,c,kk⟩:=h
 have sc_Clause_rows_told:qX ["self","row","tail"] ["self"] (z5 qB):=⟨rfl,rfl,rfl,by decide +kernel,rfl,by decide +kernel,by decide +kernel⟩
 refine⟨_,(z4 (ql (i:=1) sc_Clause_rows_told.nd rfl (Or.inl rfl) (qk qf (qk qf (qP (K:=K) rfl (pv 0) rfl) z8) (qP (K:=K) rfl (pv 0) rfl)))
   (z4 (ql (i:=2) sc_Clause_rows_told.nd rfl (Or.inl rfl) (yu hr (pv 0)))
   (z4 (qN (qu jo (pv 2) z8 (qi _))
    (z7 (qr (qD (z0 (pv 1) z6)))) qo)
   (z7 (qr (qD (z0 (qk qf (qk qf (pv 1) z8) (pv 2)) z6))))))),?_⟩
 obtain⟨e,z⟩:=JW c
 have ll:=z.ll
 have lu:=z.lu
 have lt:=z.lt
 have e1:(Str.ofString " ").length=1:=by decide +kernel
 walk_at "rd"
 obtain⟨dx,fs,m1,m2,m3⟩:=At.me T hA (m:="tail") (by decide +kernel)
 refine⟨p,_,dx,fs,rfl,m1,m2,m3,_,ZL T hk 0,?_⟩
 refine⟨p,l,u,a,n,r,rfl,hA,c,fun H1 s1=>?_⟩
 walk_at "rd"
 refine kD (fun h=>?_) (fun h=>?_)
 ·exact absurd (V.str.inj (of_decide_eq_true h)) z.ne
 ·walk_at "rd"
  intro q H2 s2 hq e2
  refine kk q H2 (by walk_at "sm") (s1.free hq) ?_
  rw[e2,z.fl]
  show _=some (HO.lst [V.str e.row])
  rw[←z.row]
theorem ay (T:Txt K mg t) {k:Int} (hk:k=0∨k=1∨k=2∨k=3) (m:Nat):yt P w K mg base jO (m + 2) (vN t k) "rows_told" (Xb t k):=by
 have F:=rf (P:=P) (w:=w) (base:=base) T hk
 rcases hk with rfl | rfl | rfl | rfl
 ·exact .mk' T.wK F T.jN.bd (by omega)
 ·exact .mk' T.wx F T.jN.bd (by omega)
 ·exact .mk' T.yp F T.jN.bd (by omega)
 ·exact .mk' T.wy F T.jN.bd (by omega)
theorem fT:qX ["self"] ["self"] (z5 jw):=⟨rfl,rfl,rfl,by decide +kernel,rfl,by decide +kernel,by decide +kernel⟩
set_option maxHeartbeats 400000 in
theorem fU (T:Txt K mg t):qJ P w K mg base jO 1 t.ky t.vQ ["self"] (Xd t):=by
 refine T.wC.fn.ok fT (fun vs H Q E h=>(by obtain⟨_,_,_,rfl,_⟩:=h;rfl)) (fun cdv A outer s H vs Q E hr h=>?_)
 obtain⟨p,n,v,rfl,hA,ho,kk⟩:=h
 refine⟨_,(z7 (qr (qD (z0 (qk qf (qk qf (qk qf z8 (qP (K:=K) rfl (pv 0) rfl)) z8) (qP (K:=K) rfl (pv 0) rfl)) z6)))),?_⟩
 have l1:=qV ho.1
 have l2:=qV ho.2
 refine⟨_,rfl,_,hA.fn T,?_⟩
 walk_at "rd"
 refine⟨_,hA.fv T,?_⟩
 walk_at "rd"
 intro q H2 s2 hq e2
 refine kk q H2 s2 hq ?_
 rw[e2,aj]
 rfl
end
theorem uY (n:Str) (rs:List Str):(Ew.pt n rs).ws=(["part",n]:List Str) ++ (if rs=[] then [] else [("in" : Str)]) ++ rs:=by cases rs<;>rfl
theorem uu {m n:Str} {a b:Addr} (h:m∉(["name","rooms","rows"]:List Str)):(sv n a b).lookup m=none:=by
 simp only[List.mem_cons,List.not_mem_nil,or_false,not_or] at h
 unfold sv
 rw[qp h.1,qp h.2.1,qp h.2.2]
 rfl
theorem Qa {m n v:Str} (h:m∉(["name","value"]:List Str)):(Jf n v).lookup m=none:=by
 simp only[List.mem_cons,List.not_mem_nil,or_false,not_or] at h
 unfold Jf
 rw[qp h.1,qp h.2]
 rfl
theorem uz:("rows_told" : Str)∉(["name","rooms","rows"]:List Str)∧("first_row" : Str)∉(["name","rooms","rows"]:List Str)∧("rows_told" : Str)∉(["name","value"]:List Str)∧("rows_told" : Str)∉(["label","who","act","turns","room"]:List Str):=by decide +kernel
theorem iM {r:Rw} {rows:List Rw} {i:Nat} (h:rows[i]?=some r):∀e∈qh r,e∈z9 rows:=fun e he=>by
 have h1:=gf h
 have h2:=congrArg z9 (List.take_append_drop (i + 1) rows)
 rw[vC,h1] at h2
 rw[←h2]
 exact List.mem_append_left _ (List.mem_append_right _ he)
noncomputable def Xp (t:ja):Sp:=fun vs H Q _=>∃(p dx a b:Addr) (n:Str) (rs:List Str),vs=[.ref p]∧H p=some (.ins t.qa dx (sv n a b))∧H a=some (.lst (rs.map V.str))∧n.length≤8∧(∀x∈rs,x.length≤8)∧rs.length≤12∧∀H',qx H H'→Q (.str (Ew.row (.pt n rs))) H'
noncomputable def ZC (t:ja):Nat→Sp
 | 0=>fun _ _ _ _=>False
 | n + 1=>fun vs H Q _=>∃(ms:List Addr) (p:Addr) (nm:Str) (rs:List Str) (rows:List Rw),vs=[.ref p]∧qF t ms H (.pt nm rs rows) (.ref p)∧jB rows∧(∀e∈z9 rows,e.ok)∧nm.length≤8∧(∀x∈rs,x.length≤8)∧rs.length≤12∧qS rows + 1≤n∧(z9 rows).length≤100∧
  ∀q H',qx H H'→H q=none→H' q=some (.lst ((qh (.pt nm rs rows)).map fun e=>V.str e.row))→Q (.ref q) H'
section
variable {P:Program} {w:World} {K:PySem.W.Frag} {mg:Str→Option Value} {base:Heap} {t:ja}
theorem wB:qX ["self","words"] ["self"] (z5 jq):=⟨rfl,rfl,rfl,by decide +kernel,rfl,by decide +kernel,by decide +kernel⟩
set_option maxHeartbeats 400000 in
theorem fq (T:Txt K mg t):qJ P w K mg base jO 1 t.x3 t.kR ["self"] (Xp t):=by
 refine T.vS.fn.ok wB (fun vs H Q E h=>(by obtain⟨_,_,_,_,_,_,rfl,_⟩:=h;rfl)) (fun cdv A outer s H vs Q E hr h=>?_)
 obtain⟨p,dx,a,b,n,rs,rfl,ep,ea,hn,hrs,hl,k⟩:=h
 refine⟨_,(z4 (ql (i:=1) wB.nd rfl (Or.inl rfl) (qD (z0 z8 (z0 (qP (K:=K) rfl (pv 0) rfl) z6))) vw)
   (z4 (PS.join (qN (qu eZ (qU (xI (K:=K) rfl) rfl T.bh PySem.boot_len (z0 (qP (K:=K) rfl (pv 0) rfl) z6)) z3 (qi _))
    (z7 (jf (kZ PySem.F.plainAttrs_list PySem.F.slot_list_append PySem.F.type_list_append j4 (pv 1) (z0 z8 z6)))) qo))
   (z7 (qr (kZ PySem.F.plainAttrs_str PySem.F.slot_str_join PySem.F.type_str_join (gZ (K:=K) rfl) z8 (z0 (qk yR (pv 1) (qP (K:=K) rfl (pv 0) rfl)) z6)))))),?_⟩
 refine⟨_,rfl,_,rY T ep,?_⟩
 walk_at "rd"
 intro l1 H1 s1 hl1 e1
 have ep1:=s1 _ _ ep
 have ea1:=s1 _ _ ea
 show kY 1 (V.ref l1) [some (.ref p),none] _ _
 refine⟨fun σ' H'=>(σ'=[some (.ref p),some (.ref l1)]∧qx H H'∧H' l1=some (.lst (((["part",n]:List Str) ++ (if rs=[] then [] else [("in" : Str)])).map V.str)))∨False,?_,?_⟩
 ·refine⟨_,rfl,_,Z3 T ep1,?_⟩
  refine⟨a,_,rfl,.inl (qC.of ea1),?_⟩
  rw[List.length_map]
  walk_at "rd"
  refine kD (fun h1=>?_) (fun h1=>?_)
  ·have h1':(0:Int) < (rs.length:Int):=of_decide_eq_true h1
   have hne:rs≠[]:=fun z=>by rw[z] at h1';simp at h1'
   walk_at "rd"
   intro H2 k2 e2
   refine .inl ⟨rfl,k2.put s1 hl1,?_⟩
   rw[e2,if_neg hne]
   rfl
  ·have he:rs=[]:=by
    cases rs with
    | nil=>rfl
    | cons y r=>exact absurd (decide_eq_true (show (0:Int) < ((y :: r).length:Int) by simp only[List.length_cons];omega)) h1
   refine .inl ⟨rfl,s1,?_⟩
   rw[e1,if_pos he]
   rfl
 rintro σ' H2 (⟨rfl,s2,e2⟩ | ⟨⟨⟩⟩)
 have ep2:=s2 _ _ ep
 have ea2:=s2 _ _ ea
 have hil:(if rs=[] then [] else [("in" : Str)]).length≤1:=by split<;>simp
 walk_at "rd"
 refine⟨_,Z3 T ep2,?_⟩
 refine⟨l1,a,_,_,rfl,rfl,e2,ea2,qy (by simp only[List.length_map,List.length_append,List.length_cons,List.length_nil];omega),?_⟩
 rw[←List.map_append,←uY]
 intro l3 H3 s3 hl3 e3
 have ht:sy (Ew.pt n rs).ws≤900:=by
  have h1:=tG (n:=8) (ws:=(Ew.pt n rs).ws) fun x hx=>by
   rw[uY] at hx
   (rcases List.mem_append.mp hx with hx | hx)
   ·(rcases List.mem_append.mp hx with hx | hx)
    ·simp only[List.mem_cons,List.not_mem_nil,or_false] at hx
     rcases hx with rfl | rfl
     ·decide +kernel
     ·exact hn
    ·split at hx
     ·cases hx
     ·rw[List.mem_singleton.mp hx];decide +kernel
   ·exact hrs x hx
  have h2:(Ew.pt n rs).ws.length≤15:=by rw[uY];simp only[List.length_append,List.length_cons,List.length_nil];omega
  omega
 refine⟨_,l3,_,rfl,rfl,qC.of e3,by rw[nK];omega,?_⟩
 exact k H3 (s2.trans s3)
theorem xG:qX ["self","told","row"] ["self"] (z5 jj):=⟨rfl,rfl,rfl,by decide +kernel,rfl,by decide +kernel,by decide +kernel⟩
set_option maxHeartbeats 400000 in
theorem b8 (T:Txt K mg t):∀n:Nat,qJ P w K mg base jO (n + 1) t.xh t.xE ["self"] ((ZC t) n):=by
 intro n
 induction n
 ·exact T.xH.fn.ok xG (fun vs H Q E h=>False.elim h) (fun cdv A outer s H vs Q E hr h=>False.elim h)
 rename_i n ih
 refine T.xH.fn.ok xG (fun vs H Q E h=>(by first | (obtain⟨rfl,_⟩:=h;rfl) | (obtain⟨_,rfl,_⟩:=h;rfl) | (obtain⟨_,_,rfl,_⟩:=h;rfl) | (obtain⟨_,_,_,rfl,_⟩:=h;rfl) | (obtain⟨_,_,_,_,rfl,_⟩:=h;rfl) | (obtain⟨_,_,_,_,_,rfl,_⟩:=h;rfl) | (obtain⟨_,_,_,_,_,_,rfl,_⟩:=h;rfl) | (obtain⟨_,_,_,_,_,_,_,rfl,_⟩:=h;rfl) | (obtain⟨_,_,_,_,_,_,_,_,rfl,_⟩:=h;rfl) | (obtain⟨_,_,_,_,_,_,_,_,_,rfl,_⟩:=h;rfl) | (obtain⟨_,_,_,_,_,_,_,_,_,_,rfl,_⟩:=h;rfl) | (obtain⟨_,_,_,_,_,_,_,_,_,_,_,rfl,_⟩:=h;rfl) | (obtain⟨_,_,_,_,_,_,_,_,_,_,_,_,rfl,_⟩:=h;rfl) | (obtain⟨_,_,_,_,_,_,_,_,_,_,_,_,_,rfl,_⟩:=h;rfl) | (obtain⟨_,_,_,_,_,_,_,_,_,_,_,_,_,_,rfl,_⟩:=h;rfl) | (obtain⟨_,_,_,_,_,_,_,_,_,_,_,_,_,_,_,rfl,_⟩:=h;rfl) | (obtain⟨_,_,_,_,_,_,_,_,_,_,_,_,_,_,_,_,rfl,_⟩:=h;rfl) | (obtain⟨_,_,_,_,_,_,_,_,_,_,_,_,_,_,_,_,_,rfl,_⟩:=h;rfl) | (obtain⟨_,_,_,_,_,_,_,_,_,_,_,_,_,_,_,_,_,_,rfl,_⟩:=h;rfl) | (obtain⟨_,_,_,_,_,_,_,_,_,_,_,_,_,_,_,_,_,_,_,rfl,_⟩:=h;rfl) | (obtain⟨_,_,_,_,_,_,_,_,_,_,_,_,_,_,_,_,_,_,_,_,rfl,_⟩:=h;rfl) | (obtain⟨_,_,_,_,_,_,_,_,_,_,_,_,_,_,_,_,_,_,_,_,_,rfl,_⟩:=h;rfl) | (obtain⟨_,_,_,_,_,_,_,_,_,_,_,_,_,_,_,_,_,_,_,_,_,_,rfl,_⟩:=h;rfl) | (obtain⟨_,_,_,_,_,_,_,_,_,_,_,_,_,_,_,_,_,_,_,_,_,_,_,rfl,_⟩:=h;rfl))) (fun cdv A outer s H vs Q E hr h=>?_)
 obtain⟨ms,p,nm,rs,rows,rfl,hR,hk,jG,hnm,hrs,hrl,hd,hlen,kk⟩:=h
 refine⟨_,(z4 (ql (i:=1) xG.nd rfl (Or.inl rfl) (qD (z0 (yu hr (pv 0)) z6)) vw)
   (z4 (kI PassesOwn.never rfl (ji (K:=K) rfl (qP (K:=K) rfl (pv 0) rfl)) (jn (i:=2) xG.nd rfl (Or.inl rfl))
    (z7 (jf (kZ PySem.F.plainAttrs_list PySem.F.slot_list_extend PySem.F.type_list_extend fM (pv 1) (z0 (yu hr (pv 2)) z6)))))
   (z4 (jf (kZ PySem.F.plainAttrs_list PySem.F.slot_list_append PySem.F.type_list_append j4 (pv 1) (z0 z8 z6)))
   (z7 (qr (pv 1)))))),?_⟩
 unfold qF at hR
 obtain⟨p',dx,a,b,ys,ep',hp,ha,hb,ep,ea,eb,hRs⟩:=hR
 cases ep'
 have MF:∀m,yt P w K mg base jO (m + 1) t.qa "first_row" (Xp t):=fun m=>.mk' T.wV (fq T) T.vS.bd (by omega)
 have hdr:(qh (.pt nm rs rows)).map (fun e=>V.str e.row)=(Ew.row (.pt nm rs) :: ((z9 rows).map Ew.row ++ [("done" : Str)])).map V.str:=by
  rw[qh,List.map_cons,List.map_cons,List.map_append,List.map_append,List.map_map,List.map_cons,List.map_cons,fK]
  rfl
 walk_at "rd"
 refine⟨p,t.qa,dx,_,rfl,ep,T.xY,uu uz.2.1,_,MF n,?_⟩
 refine⟨p,dx,a,b,nm,rs,rfl,ep,ea,hnm,hrs,hrl,fun H1 s1=>?_⟩
 walk_at "rd"
 intro l H2 s2 hl e2
 have sA:qx H H2:=s1.trans s2
 have hlH:H l=none:=s1.free hl
 have hml:∀c∈l :: ms,c∈ms∨H c=none:=fun c h=>(List.mem_cons.mp h).elim (fun z=>.inr (by rw[z];exact hlH)) .inl
 have ep2:=sA _ _ ep
 have eb2:=sA _ _ eb
 walk_at "rd"
 refine⟨_,nj T ep2,?_⟩
 refine⟨b,rfl,⟨_,qC.of eb2⟩,?_⟩
 refine dc (K:=K) (a:=b) (xs:=ys) (fun i σ H'=>∃(v2:Option V),σ=[some (.ref p),some (.ref l),v2]∧qx H H'∧H' l=some (.lst ((Ew.row (.pt nm rs) :: (z9 (rows.take i)).map Ew.row).map V.str)))
  ⟨none,rfl,sA,by rw[e2,List.take_zero,z9];rfl⟩ (fun i σ H' _ ⟨_,_,q,_⟩=>qC.of (q _ _ eb)) ?_ ?_
 ·rintro i y σ H3 hi ⟨v2,rfl,s3,e3⟩
  obtain⟨r,hr',y0⟩:=qt.gk hRs hi
  have hk1:=hk.gk hr'
  have hd1:=gh hr'
  have hfl:=gf hr'
  have hmem:=iM hr'
  have hfn:=pG (rs:=rows) (i + 1)
  rw[hfl,List.length_append] at hfn
  have hRw3:qF t (l :: ms) H3 r y:=y0.move (Fm.of s3) hml
  have hext:∀(q:Addr) (H4:Hp),qx H3 H4→H4 q=some (.lst ((qh r).map fun e=>V.str e.row))→∀H5,Keeps l H4 H5→H5 l=some (.lst (((Ew.row (.pt nm rs) :: (z9 (rows.take i)).map Ew.row).map V.str) ++ (qh r).map fun e=>V.str e.row))→∃(v2:Option V),[some (V.ref p),some (V.ref l),some y]=[some (.ref p),some (.ref l),v2]∧qx H H5∧H5 l=some (.lst ((Ew.row (.pt nm rs) :: (z9 (rows.take (i + 1))).map Ew.row).map V.str)):=fun q H4 s4 eq H5 k5 e5=>by
   refine⟨_,rfl,k5.put (s3.trans s4) hlH,?_⟩
   rw[e5,hfl,List.map_append,←List.cons_append,List.map_append,List.map_map]
   rfl
  have hlen3:((Ew.row (.pt nm rs) :: (z9 (rows.take i)).map Ew.row).map V.str).length=(z9 (rows.take i)).length + 1:=by simp
  cases r with
  | lt n' v'=>
   unfold qF at hRw3
   obtain⟨p1,rfl,hp1,hA⟩:=hRw3
   have ML:yt P w K mg base jO (n + 1) t.vg "rows_told" (Xd t):=.mk' T.yf (fU T) T.wC.bd (by omega)
   have ho:(Ew.lt n' v').ok:=jG _ (hmem _ (by rw[qh];simp))
   obtain⟨dx1,eA⟩:=id hA
   refine⟨_,rfl,.inl ⟨rfl,_,qC.of e3⟩,?_⟩
   refine⟨_,rfl,p1,t.vg,dx1,_,rfl,eA,T.bS,Qa uz.2.2.1,_,ML,?_⟩
   refine⟨p1,n',v',rfl,hA,ho,fun q H4 s4 hq e4=>?_⟩
   refine⟨l,q,_,_,rfl,rfl,s4 _ _ e3,e4,qy (by rw[hlen3,List.length_map];omega),?_⟩
   intro H5 k5 e5
   exact hext q H4 s4 e4 H5 k5 e5
  | cl k' l' u' a' n' r'=>
   unfold qF at hRw3
   obtain⟨p1,rfl,hp1,hA⟩:=hRw3
   rw[kq] at hk1
   obtain⟨m',rfl⟩:∃m',n=m' + 1:=⟨n - 1,by omega⟩
   obtain⟨dx1,fs1,m1,m2,m3⟩:=At.me T hA (m:="rows_told") uz.2.2.2
   refine⟨_,rfl,.inl ⟨rfl,_,qC.of e3⟩,?_⟩
   refine⟨_,rfl,p1,_,dx1,fs1,rfl,m1,m2,m3,_,ay T hk1 m',?_⟩
   refine⟨p1,l',u',a',n',r',rfl,hA,⟨hk1,fun e he=>jG e (hmem e he)⟩,fun q H4 s4 hq e4=>?_⟩
   refine⟨l,q,_,_,rfl,rfl,s4 _ _ e3,e4,qy (by rw[hlen3,List.length_map];omega),?_⟩
   intro H5 k5 e5
   exact hext q H4 s4 e4 H5 k5 e5
  | pt n' rs' rows'=>
   have hR3:=hRw3
   unfold qF at hRw3
   obtain⟨p1,dx1,a1,b1,ys1,rfl,hp1,ha1,hb1,q1,q2,q3,q4⟩:=hRw3
   rw[kq] at hk1
   rw[xx] at hd1
   have ho:(Ew.pt n' rs').ok:=jG _ (hmem _ (by rw[qh];simp))
   have hin:∀e∈z9 rows',e.ok:=fun e he=>jG e (hmem e (by rw[qh];simp [he]))
   have hf2:(qh (.pt n' rs' rows')).length=(z9 rows').length + 2:=by rw[qh];simp
   obtain⟨m',rfl⟩:∃m',n=m' + 1:=⟨n - 1,by omega⟩
   have MP:yt P w K mg base jO (m' + 1 + 1) t.qa "rows_told" (ZC t (m' + 1)):=.mk' T.kG ih T.xH.bd (by omega)
   refine⟨_,rfl,.inl ⟨rfl,_,qC.of e3⟩,?_⟩
   refine⟨_,rfl,p1,t.qa,dx1,_,rfl,q1,T.xY,uu uz.1,_,MP,?_⟩
   refine⟨l :: ms,p1,n',rs',rows',rfl,hR3,hk1,hin,qV ho.1,fun x hx=>qV (ho.2.1 x hx),ho.2.2,by omega,by omega,fun q H4 s4 hq e4=>?_⟩
   refine⟨l,q,_,_,rfl,rfl,s4 _ _ e3,e4,qy (by rw[hlen3,List.length_map];omega),?_⟩
   intro H5 k5 e5
   exact hext q H4 s4 e4 H5 k5 e5
 ·rintro σ H3 ⟨v2,rfl,s3,e3⟩
  rw[hRs.len,List.take_length] at e3
  walk_at "rd"
  intro H4 k4 e4
  walk_at "rd"
  refine kk l H4 (k4.put s3 hlH) hlH ?_
  rw[e4,hdr,←List.cons_append,List.map_append]
  rfl
theorem fk (T:Txt K mg t):qJ P w K mg base jO 10 t.xh t.xE ["self"] ((ZC t) 9):=b8 T 9
end
theorem aF:("whole" : Str).length≤8:=by decide +kernel
section
variable {P:Program} {w:World} {K:PySem.W.Frag} {mg:Str→Option Value} {base:Heap} {t:ja}
section
variable {H:Hp} {p dx a b c:Addr} {x:V}
theorem JC (T:Txt K mg t) (e:H p=some (.ins t.jF dx (JR a b c x))):nD K H (.ref p) "whole" x:=⟨p,_,dx,_,rfl,e,T.gO,T.wO,(qp fun q=>My.a3 (Eq.symm q)).trans ((qp fun q=>My.a5 (Eq.symm q)).trans ((qp fun q=>My.a6 (Eq.symm q)).trans jE))⟩
end
end
noncomputable def tm:Ew→Rw
 | .lt a b=>.lt a b
 | .mu l w a n r=>.cl 0 l w a n r
 | .my l w a=>.cl 1 l w a 0 ""
 | .bn l w a r=>.cl 2 l w a 0 r
 | .pw l w a r=>.cl 3 l w a 0 r
 | .pt n rs=>.pt n rs []
 | .dn=>.lt "" ""
noncomputable def eW:Ew→Bool
 | .pt _ _=>false
 | .dn=>false
 | _=>true
noncomputable def Qx (t:ja):Sp:=fun vs H Q _=>∃(v:V) (e:Ew),vs=[v]∧wm H v e∧eW e=true∧∀p H',qx H H'→H p=none→(∀ms,p∉ms→qF t ms H' (tm e) (.ref p))→Q (.ref p) H'
section
variable {P:Program} {w:World} {K:PySem.W.Frag} {mg:Str→Option Value} {base:Heap} {t:ja}
theorem lD:qX ["_law_event_here"] ["_law_event_here"] (z5 xQ):=⟨rfl,rfl,rfl,by decide +kernel,rfl,by decide +kernel,by decide +kernel⟩
set_option maxHeartbeats 400000 in
theorem ly (T:Txt K mg t):qJ P w K mg base jO 4 t.yB t.yX ["_law_event_here"] (Qx t):=by
 have M_Ban_init:qJ P w K mg base jO 2 t.kL t.yn ["self","label","who","act","room"] (ZD K):=(rO T).mono (by decide)
 have M_Clause_init:qJ P w K mg base jO 2 t.qO t.xj ["self","label","who","act"] (ao K):=(kH T).mono (by decide)
 have M_Duty_init:qJ P w K mg base jO 2 t.ki t.wa ["self","label","who","act","turns","room"] (Xf K):=(uX T).mono (by decide)
 have M_Let_init:qJ P w K mg base jO 2 t.vA t.yi ["self","name","value"] (Xm t):=(rA T).mono (by decide)
 have M_Power_init:qJ P w K mg base jO 2 t.x4 t.vW ["self","label","who","act","room"] (ZD K):=(cb T).mono (by decide)
 refine T.gL.fn.ok lD (fun vs H Q E h=>(by obtain⟨_,_,rfl,_⟩:=h;rfl)) (fun cdv A outer s H vs Q E hr h=>?_)
 obtain⟨v,e,rfl,hE,hp,k⟩:=h
 refine⟨_,(z4 (qN (qu jo (qv (qz (K:=K) rfl) (pv 0) z3 (fun _ _=>rfl)) z8 (qi _))
    (z7 (qr (x8 T.i8 M_Let_init hr rfl T.Z7 T.dq.bd .nil qW (z0 (qv (qz (K:=K) rfl) (pv 0) z3 (fun _ _=>rfl)) (z0 (qv (qz (K:=K) rfl) (pv 0) z3 (fun _ _=>rfl)) z6))))) qo)
   (z4 (qN (qu jo (qv (qz (K:=K) rfl) (pv 0) z3 (fun _ _=>rfl)) z8 (qi _))
    (z7 (qr (x8 T.uZ M_Duty_init hr rfl T.sV T.fZ.bd .nil qW (z0 (qv (qz (K:=K) rfl) (pv 0) z3 (fun _ _=>rfl)) (z0 (qv (qz (K:=K) rfl) (pv 0) z3 (fun _ _=>rfl)) (z0 (qv (qz (K:=K) rfl) (pv 0) z3 (fun _ _=>rfl)) (z0 (qv (qz (K:=K) rfl) (pv 0) z3 (fun _ _=>rfl)) (z0 (qv (qz (K:=K) rfl) (pv 0) z3 (fun _ _=>rfl)) z6)))))))) qo)
   (z4 (qN (qu jo (qv (qz (K:=K) rfl) (pv 0) z3 (fun _ _=>rfl)) z8 (qi _))
    (z7 (qr (x8 T.dX M_Clause_init hr rfl T.mN T.ku.bd .nil qW (z0 (qv (qz (K:=K) rfl) (pv 0) z3 (fun _ _=>rfl)) (z0 (qv (qz (K:=K) rfl) (pv 0) z3 (fun _ _=>rfl)) (z0 (qv (qz (K:=K) rfl) (pv 0) z3 (fun _ _=>rfl)) z6)))))) qo)
   (z4 (qN (qu jo (qv (qz (K:=K) rfl) (pv 0) z3 (fun _ _=>rfl)) z8 (qi _))
    (z7 (qr (x8 T.sR M_Ban_init hr rfl T.i6 T.m9.bd .nil qW (z0 (qv (qz (K:=K) rfl) (pv 0) z3 (fun _ _=>rfl)) (z0 (qv (qz (K:=K) rfl) (pv 0) z3 (fun _ _=>rfl)) (z0 (qv (qz (K:=K) rfl) (pv 0) z3 (fun _ _=>rfl)) (z0 (qv (qz (K:=K) rfl) (pv 0) z3 (fun _ _=>rfl)) z6))))))) qo)
   (z7 (qr (x8 T.dW M_Power_init hr rfl T.ua T.bU.bd .nil qW (z0 (qv (qz (K:=K) rfl) (pv 0) z3 (fun _ _=>rfl)) (z0 (qv (qz (K:=K) rfl) (pv 0) z3 (fun _ _=>rfl)) (z0 (qv (qz (K:=K) rfl) (pv 0) z3 (fun _ _=>rfl)) (z0 (qv (qz (K:=K) rfl) (pv 0) z3 (fun _ _=>rfl)) z6))))))))))),?_⟩
 cases e with
 | pt n rs=>cases hp
 | dn=>cases hp
 | lt a b=>
  obtain⟨q,rfl,eq⟩:=hE
  walk_at "rd"
  intro p dx hp hdx hne
  refine⟨p,dx,_,_,rfl,qg,rfl,?_⟩
  exact k p _ (yb hp hdx hne) hp fun ms hm=>by
   unfold tm qF
   exact⟨p,rfl,hm,dx,qg⟩
 | mu l u a n r=>
  obtain⟨q,rfl,eq⟩:=hE
  walk_at "rd"
  intro p dx hp hdx hne
  refine⟨p,_,dx,_,_,_,_,_,_,rfl,tT T,qg,rfl,?_⟩
  exact k p _ (yb hp hdx hne) hp fun ms hm=>by
   unfold tm qF
   exact⟨p,rfl,hm,dx,qg⟩
 | my l u a=>
  obtain⟨q,rfl,eq⟩:=hE
  walk_at "rd"
  intro p dx hp hdx hne
  refine⟨p,_,dx,_,_,_,_,rfl,rj T,qg,rfl,?_⟩
  exact k p _ (yb hp hdx hne) hp fun ms hm=>by
   unfold tm qF
   exact⟨p,rfl,hm,dx,qg⟩
 | bn l u a r=>
  obtain⟨q,rfl,eq⟩:=hE
  walk_at "rd"
  intro p dx hp hdx hne
  refine⟨p,_,dx,_,_,_,_,_,rfl,il T,qg,rfl,?_⟩
  exact k p _ (yb hp hdx hne) hp fun ms hm=>by
   unfold tm qF
   exact⟨p,rfl,hm,dx,qg⟩
 | pw l u a r=>
  obtain⟨q,rfl,eq⟩:=hE
  walk_at "rd"
  intro p dx hp hdx hne
  refine⟨p,_,dx,_,_,_,_,_,rfl,rk T,qg,rfl,?_⟩
  exact k p _ (yb hp hdx hne) hp fun ms hm=>by
   unfold tm qF
   exact⟨p,rfl,hm,dx,qg⟩
end
noncomputable def cv (t:ja) (ms:List Addr) (H:Hp) (f:Addr × Addr × Addr) (g:Fr):Prop:=H f.1=some (.tup [.str g.1,.ref f.2.1,.ref f.2.2])∧f.2.1∈ms∧f.2.2∈ms∧H f.2.1=some (.lst (g.2.1.map V.str))∧∃ys,H f.2.2=some (.lst ys)∧qt t ms H g.2.2 ys
noncomputable def kd (fs:List (Addr × Addr × Addr)):List Addr:=fs.flatMap fun f=>[f.2.1,f.2.2]
structure fJ (t:ja) (ms:List Addr) (H:Hp) (l:Addr) (fs:List (Addr × Addr × Addr)) (fr:List Fr):Prop where
 el:H l=some (.lst (fs.reverse.map fun f=>V.ref f.1))
 lm:l∈ms
 nd:(l :: kd fs).Nodup
 at_:Paired (cv t ms H) fs fr
 al:∀c∈ms,∃o,H c=some o
theorem mG {ms:List Addr} {H H':Hp} {x:Addr} (h:∀c∈ms,∃o,H c=some o) (k:Keeps x H H') (hx:∃o,H' x=some o):∀c∈ms,∃o,H' c=some o:=fun c hc=>by
 by_cases q:c=x
 ·rw[q];exact hx
 ·obtain⟨o,e⟩:=h c hc
  exact⟨o,k.look e q⟩
theorem cv.same {t:ja} {ms:List Addr} {H H':Hp} {f:Addr × Addr × Addr} {g:Fr} (h:cv t ms H f g) (s:qx H H'):cv t ms H' f g:=by
 obtain⟨h1,h2,h3,h4,ys,h5,h6⟩:=h
 exact⟨s _ _ h1,h2,h3,s _ _ h4,ys,s _ _ h5,h6.move (Fm.of s) fun b hb=>.inl hb⟩
theorem cv.more {t:ja} {ms:List Addr} {H:Hp} {f:Addr × Addr × Addr} {g:Fr} {c:Addr} (h:cv t ms H f g) (hc:H c=none):cv t (c :: ms) H f g:=by
 obtain⟨h1,h2,h3,h4,ys,h5,h6⟩:=h
 exact⟨h1,List.mem_cons_of_mem _ h2,List.mem_cons_of_mem _ h3,h4,ys,h5,h6.move (fun b o _ e=>e) fun b hb=>(List.mem_cons.mp hb).elim (fun z=>.inr (by rw[z];exact hc)) .inl⟩
theorem cv.keep {t:ja} {ms:List Addr} {H H':Hp} {f:Addr × Addr × Addr} {g:Fr} {x:Addr} {zs:List V} (h:cv t ms H f g) (k:Keeps x H H') (hx:x∈ms) (ex:H x=some (.lst zs)) (n1:f.2.1≠x) (n2:f.2.2≠x):cv t ms H' f g:=by
 obtain⟨h1,h2,h3,h4,ys,h5,h6⟩:=h
 refine⟨k.look h1 (xU h1 ex (by intro z;cases z)),h2,h3,k.look h4 n1,ys,k.look h5 n2,h6.move (fun b o hb e=>k.look e (fun z=>hb (by rw[z];exact hx))) fun b hb=>.inl hb⟩
theorem fJ.same {t:ja} {ms:List Addr} {H H':Hp} {l:Addr} {fs:List (Addr × Addr × Addr)} {fr:List Fr} (h:fJ t ms H l fs fr) (s:qx H H'):fJ t ms H' l fs fr:=⟨s _ _ h.el,h.lm,h.nd,Paired.imp' (fun _ _ z=>z.same s) h.at_,fun c hc=>by obtain⟨o,e⟩:=h.al c hc;exact⟨o,s _ _ e⟩⟩
theorem fJ.add {t:ja} {ms:List Addr} {H H':Hp} {l c:Addr} {o:HO} {fs:List (Addr × Addr × Addr)} {fr:List Fr} (h:fJ t ms H l fs fr) (s:qx H H') (hc:H c=none) (e:H' c=some o):fJ t (c :: ms) H' l fs fr:=
 ⟨s _ _ h.el,List.mem_cons_of_mem _ h.lm,h.nd,Paired.imp' (fun _ _ z=>(z.more hc).same s) h.at_,fun x hx=>(List.mem_cons.mp hx).elim (fun z=>⟨o,by rw[z];exact e⟩) (fun z=>by obtain⟨o,e⟩:=h.al x z;exact⟨o,s _ _ e⟩)⟩
theorem pH {t:ja} {ms:List Addr} {H H':Hp} {x:Addr} {zs:List V} (k:Keeps x H H') (hx:x∈ms) (ex:H x=some (.lst zs)):∀{fs:List (Addr × Addr × Addr)} {fr:List Fr},x∉kd fs→Paired (cv t ms H) fs fr→Paired (cv t ms H') fs fr
 | _,_,_,.nil=>.nil
 | f :: fs,_,hn,.cons h r=>by
  have e:kd (f :: fs)=[f.2.1,f.2.2] ++ kd fs:=by simp [kd]
  rw[e] at hn
  refine .cons (h.keep k hx ex (fun z=>hn (by rw[←z];simp)) (fun z=>hn (by rw[←z];simp))) (pH k hx ex (fun z=>hn (List.mem_append_right _ z)) r)
theorem xp (f:Addr × Addr × Addr) (fs:List (Addr × Addr × Addr)):kd (f :: fs)=f.2.1 :: f.2.2 :: kd fs:=by simp [kd]
theorem fJ.push {t:ja} {ms:List Addr} {H H':Hp} {l tp a b:Addr} {fs:List (Addr × Addr × Addr)} {fr:List Fr} {n:Str} {rs:List Str} (h:fJ t ms H l fs fr) (ha:a∉l :: kd fs) (hb:b∉l :: kd fs) (hab:a≠b) (ham:a∈ms) (hbm:b∈ms) (et:H tp=some (.tup [.str n,.ref a,.ref b])) (ea:H a=some (.lst (rs.map V.str))) (eb:H b=some (.lst []))
  (k:Keeps l H H') (el:H' l=some (.lst (fs.reverse.map (fun f=>V.ref f.1) ++ [.ref tp]))):fJ t ms H' l ((tp,a,b) :: fs) ((n,rs,[]) :: fr):=by
 have hln:l∉kd fs:=(List.nodup_cons.mp h.nd).1
 refine⟨?_,h.lm,?_,.cons ?_ (pH k h.lm h.el hln h.at_),mG h.al k ⟨_,el⟩⟩
 ·rw[el,List.reverse_cons,List.map_append];rfl
 ·rw[xp]
  have n0:=(List.nodup_cons.mp h.nd).2
  simp only[List.mem_cons,not_or] at ha hb
  simp only[List.nodup_cons,List.mem_cons,not_or]
  exact⟨⟨fun z=>ha.1 z.symm,fun z=>hb.1 z.symm,hln⟩,⟨hab,ha.2⟩,hb.2,n0⟩
 ·simp only[List.mem_cons,not_or] at ha hb
  exact⟨k.look et (xU et h.el (by intro z;cases z)),ham,hbm,k.look ea ha.1,[],k.look eb hb.1,by unfold qt;rfl⟩
theorem fJ.row {t:ja} {ms:List Addr} {H H':Hp} {l:Addr} {f:Addr × Addr × Addr} {fs:List (Addr × Addr × Addr)} {n:Str} {rs:List Str} {rows:List Rw} {fr:List Fr} {r:Rw} {y:V} {ys:List V} (h:fJ t ms H l (f :: fs) ((n,rs,rows) :: fr)) (hy:qF t ms H r y) (eb:H f.2.2=some (.lst ys))
  (k:Keeps f.2.2 H H') (e:H' f.2.2=some (.lst (ys ++ [y]))):fJ t ms H' l (f :: fs) ((n,rs,rows ++ [r]) :: fr):=by
 have nd:=h.nd
 rw[xp] at nd
 simp only[List.nodup_cons,List.mem_cons,not_or] at nd
 match h.at_ with
 | .cons hf hr=>
  obtain⟨h1,h2,h3,h4,ys',h5,h6⟩:=hf
  rw[eb] at h5
  cases h5
  have fm:Fm ms H H':=fun b o hb e=>k.look e (fun z=>hb (by rw[z];exact h3))
  refine⟨k.look h.el nd.1.2.1,h.lm,h.nd,.cons ⟨k.look h1 (xU h1 eb (by intro z;cases z)),h2,h3,k.look h4 nd.2.1.1,_,e,?_⟩ (pH k h3 eb nd.2.2.1 hr),mG h.al k ⟨_,e⟩⟩
  exact qt.snoc (hy.move fm fun b hb=>.inl hb) (h6.move fm fun b hb=>.inl hb)
section
variable {P:Program} {w:World} {K:PySem.W.Frag} {mg:Str→Option Value} {base:Heap} {t:ja}
end
theorem fJ.pop {t:ja} {ms:List Addr} {H H':Hp} {l:Addr} {f:Addr × Addr × Addr} {fs:List (Addr × Addr × Addr)} {g:Fr} {fr:List Fr} (h:fJ t ms H l (f :: fs) (g :: fr)) (k:Keeps l H H') (el:H' l=some (.lst (fs.reverse.map fun f=>V.ref f.1))):fJ t ms H' l fs fr∧cv t ms H' f g:=by
 have nd:=h.nd
 rw[xp] at nd
 simp only[List.nodup_cons,List.mem_cons,not_or] at nd
 match h.at_ with
 | .cons hf hr=>exact⟨⟨el,h.lm,List.nodup_cons.mpr ⟨nd.1.2.2,nd.2.2.2⟩,pH k h.lm h.el nd.1.2.2 hr,mG h.al k ⟨_,el⟩⟩,hf.keep k h.lm h.el (fun z=>nd.1.1 z.symm) (fun z=>nd.1.2.1 z.symm)⟩
theorem fJ.off {t:ja} {ms:List Addr} {H H':Hp} {l x:Addr} {fs:List (Addr × Addr × Addr)} {fr:List Fr} {zs:List V} (h:fJ t ms H l fs fr) (hx:x∈ms) (hn:x∉l :: kd fs) (ex:H x=some (.lst zs)) (k:Keeps x H H') (e:∃o,H' x=some o):fJ t ms H' l fs fr:=by
 simp only[List.mem_cons,not_or] at hn
 exact⟨k.look h.el (fun z=>hn.1 z.symm),h.lm,h.nd,pH k hx ex hn.2 h.at_,mG h.al k e⟩
theorem fJ.has {t:ja} {ms:List Addr} {H:Hp} {l:Addr} {fs:List (Addr × Addr × Addr)} {fr:List Fr} (h:fJ t ms H l fs fr):∀x∈l :: kd fs,∃o,H x=some o:=by
 have key:∀{fs:List (Addr × Addr × Addr)} {fr:List Fr},Paired (cv t ms H) fs fr→∀x∈kd fs,∃o,H x=some o:=fun {fs fr} q=>by
  induction q with
  | nil=>intro x hx;cases hx
  | cons h _ ih=>
   intro x hx
   rw[xp] at hx
   obtain⟨_,_,_,h4,ys,h5,_⟩:=h
   (rcases List.mem_cons.mp hx with rfl | hx)
   ·exact⟨_,h4⟩
   (rcases List.mem_cons.mp hx with rfl | hx)
   ·exact⟨_,h5⟩
   ·exact ih x hx
 intro x hx
 (rcases List.mem_cons.mp hx with rfl | hx)
 ·exact⟨_,h.el⟩
 ·exact key h.at_ x hx
theorem fJ.new {t:ja} {ms:List Addr} {H:Hp} {l c:Addr} {fs:List (Addr × Addr × Addr)} {fr:List Fr} (h:fJ t ms H l fs fr) (hc:H c=none):c∉l :: kd fs:=fun z=>by
 obtain⟨o,e⟩:=h.has c z
 rw[hc] at e
 cases e
noncomputable def gF:List Ew→List Fr × List Str→Option (List Fr × List Str)
 | [],s=>some s
 | e :: r,s=>(e.take s.1 s.2).bind (gF r)
theorem d0:∀(a b:List Ew) (s:List Fr × List Str),gF (a ++ b) s=(gF a s).bind (gF b)
 | [],b,s=>rfl
 | e :: r,b,s=>by
  rw[List.cons_append,gF,gF]
  cases e.take s.1 s.2 with
  | none=>rfl
  | some q=>exact d0 r b q
theorem uF:∀{evs:List Ew} {d d':Nat} {fr:List Fr} {ls:List Str},cU d evs=some d'→fr.length=d + 1→d≤6→(ls ++ j0 evs).Nodup→∃fr',gF evs (fr,ls)=some (fr',ls ++ j0 evs)∧fr'.length=d' + 1
 | [],d,d',fr,ls,h,hf,_,_=>by cases h;exact⟨fr,by simp [gF,j0],hf⟩
 | e :: r,d,d',fr,ls,h,hf,h6,hn=>by
  rw[cU] at h
  cases hd:dp d e with
  | none=>rw[hd] at h;cases h
  | some d1=>
   rw[hd,Option.bind_some] at h
   have el:j0 (e :: r)=vJ e ++ j0 r:=by simp [j0]
   rw[el] at hn ⊢
   have hnl:∀x∈vJ e,x∉ls:=fun x hx q=>(List.nodup_append.mp hn).2.2 x q x (List.mem_append_left _ hx) rfl
   obtain⟨fr1,e1,l1,h61⟩:=ZS hd hf h6 hnl
   rw[←List.append_assoc] at hn ⊢
   obtain⟨fr',z,zl⟩:=uF h l1 h61 hn
   exact⟨fr',by rw[gF];dsimp only;rw[e1];exact z,zl⟩
noncomputable def iL:List Fr:=[("whole",[],[])]
theorem ZH {evs:List Ew} (he:nM evs) (i:Nat):∃fr ls,gF (evs.take i) (iL,[])=some (fr,ls):=by
 obtain⟨fr,e,_⟩:=uF (fr:=iL) (ls:=[]) he.dp rfl (by decide) (by simpa using he.nd)
 rw[←List.take_append_drop i evs,d0] at e
 cases q:gF (evs.take i) (iL,[]) with
 | none=>rw[q] at e;cases e
 | some s=>exact⟨s.1,s.2,rfl⟩
theorem oK {evs:List Ew} (he:nM evs) {i:Nat} {e:Ew} (hi:evs[i]?=some e) {fr:List Fr} {ls:List Str} (h:gF (evs.take i) (iL,[])=some (fr,ls)):∃fr' ls',e.take fr ls=some (fr',ls')∧gF (evs.take (i + 1)) (iL,[])=some (fr',ls'):=by
 obtain⟨fr',ls',e1⟩:=ZH he (i + 1)
 have e2:=e1
 rw[take_snoc hi,d0,h] at e2
 refine⟨fr',ls',?_,e1⟩
 have e3:(e.take fr ls).bind (gF [])=some (fr',ls'):=e2
 cases q:e.take fr ls with
 | none=>rw[q] at e3;cases e3
 | some s=>rw[q] at e3;exact e3
theorem ag {evs:List Ew} (he:nM evs) {fr:List Fr} {ls:List Str} (h:gF evs (iL,[])=some (fr,ls)):fr.length=1:=by
 obtain⟨fr',e,l⟩:=uF (fr:=iL) (ls:=[]) he.dp rfl (by decide) (by simpa using he.nd)
 rw[h] at e
 cases e
 exact l
theorem cT:∀r:Rw,1≤(qh r).length
 | .lt a b=>by simp [qh]
 | .cl k l u a n r=>by
  rw[qh]
  split
  ·simp
  split
  ·simp
  split<;>simp
 | .pt n rs rows=>by simp [qh]
theorem kg:∀rows:List Rw,rows.length≤(z9 rows).length
 | []=>by simp
 | r :: rs=>by
  have h1:=cT r
  have h2:=kg rs
  rw[z9,List.length_append,List.length_cons]
  omega
theorem yy (n:Str) (rs:List Str) (rows:List Rw) (fr:List Fr):(z9 rows).length≤(kW ((n,rs,rows) :: fr)).length:=by
 show _≤((if fr=[] then [] else kW fr ++ [Ew.pt n rs]) ++ z9 rows).length
 rw[List.length_append]
 omega
noncomputable def Xu (t:ja):Sp:=fun vs H Q _=>∃(le:Addr) (ws:List V) (evs:List Ew) (ex:List Addr),vs=[.ref le]∧H le=some (.lst ws)∧Paired (wm H) ws evs∧nM evs∧(∀c∈ex,∃o,H c=some o)∧
 ∀p rows H',qx H H'→z9 rows=evs→jB rows→qS rows≤6→qF t ex H' (.pt "whole" [] rows) (.ref p)→Q (.ref p) H'
section
variable {P:Program} {w:World} {K:PySem.W.Frag} {mg:Str→Option Value} {base:Heap} {t:ja}
theorem jP:qX ["_law_events_here","_law_stack","_law_event_here","_law_name_here","_law_rooms","_law_rows_here","_law_whole"] ["_law_events_here"] (z5 ju):=⟨rfl,rfl,rfl,by decide +kernel,rfl,by decide +kernel,by decide +kernel⟩
set_option maxHeartbeats 400000 in
theorem mW (T:Txt K mg t):qJ P w K mg base jO 5 t.kK t.kJ ["_law_events_here"] (Xu t):=by
 have G_w_object:qJ P w K mg base jO 4 t.yB t.yX ["_law_event_here"] (Qx t):=(ly T).mono (by decide)
 have M_Part_init:qJ P w K mg base jO 3 t.ke t.vh ["self","name","rooms","rows"] (Q9 K t):=(fj T).mono (by decide)
 refine T.kM.fn.ok jP (fun vs H Q E h=>(by obtain⟨_,_,_,_,rfl,_⟩:=h;rfl)) (fun cdv A outer s H vs Q E hr h=>?_)
 obtain⟨le,ws,evs,ex,rfl,hL,hP,he,hex,kk⟩:=h
 refine⟨_,(z4 (ql (i:=1) jP.nd rfl (Or.inl rfl) (qD (z0 (xk (z0 z8 (z0 (qD z6) (z0 (qD z6) z6)))) z6)) vw)
   (z4 (kI PassesOwn.never rfl (ji (K:=K) rfl (pv 0)) (jn (i:=2) jP.nd rfl (Or.inl rfl))
    (z7 (PS.join (qN (qu jo (qv (qz (K:=K) rfl) (pv 2) z3 (fun _ _=>rfl)) z8 (qi _))
    (z7 (jf (kZ PySem.F.plainAttrs_list PySem.F.slot_list_append PySem.F.type_list_append j4 (pv 1) (z0 (xk (z0 (qv (qz (K:=K) rfl) (pv 2) z3 (fun _ _=>rfl)) (z0 (jH (ym (K:=K) rfl) rfl T.wU PyProof.Rows.boot_list (z0 (qv (qz (K:=K) rfl) (pv 2) z3 (fun _ _=>rfl)) z6)) (z0 (qD z6) z6)))) z6)))) (z7 (PS.join (qN (qu jo (qv (qz (K:=K) rfl) (pv 2) z3 (fun _ _=>rfl)) z8 (qi _))
    (z4 (eY (fS PySem.F.plainAttrs_list PySem.F.slot_list_pop PySem.F.type_list_pop QD (pv 1)) (nQ (K:=K) rfl rfl (gB (jn (i:=3) jP.nd rfl (Or.inl rfl)) (gB (jn (i:=4) jP.nd rfl (Or.inl rfl)) (gB (jn (i:=5) jP.nd rfl (Or.inl rfl)) nJ)))))
   (z4 (jf (kZ PySem.F.plainAttrs_list PySem.F.slot_list_append PySem.F.type_list_append j4 (qv (qz (K:=K) rfl) (qv (qQ (K:=K) rfl) (pv 1) (Qz aG z3) (fun _ _=>rfl)) z3 (fun _ _=>rfl)) (z0 (x8 T.yM M_Part_init hr rfl T.wN T.kl.bd .nil qW (z0 (pv 3) (z0 (pv 4) (z0 (pv 5) z6)))) z6)))
   (z4 (jf (kZ PySem.F.plainAttrs_list PySem.F.slot_list_append PySem.F.type_list_append j4 (pv 4) (z0 z8 z6)))
   (z7 (jf (fS PySem.F.plainAttrs_list PySem.F.slot_list_clear PySem.F.type_list_clear gG (pv 5))))))) (z7 (jf (kZ PySem.F.plainAttrs_list PySem.F.slot_list_append PySem.F.type_list_append j4 (qv (qz (K:=K) rfl) (qv (qQ (K:=K) rfl) (pv 1) (Qz aG z3) (fun _ _=>rfl)) z3 (fun _ _=>rfl)) (z0 (qe G_w_object hr rfl T.gL.mg T.gL.fn.kp T.gL.bd .nil qW (z0 (pv 2) z6)) z6)))))))))))
   (z4 (ql (i:=6) jP.nd rfl (Or.inl rfl) (x8 T.yM M_Part_init hr rfl T.wN T.kl.bd .nil qW (z0 z8 (z0 (qv (qz (K:=K) rfl) (qv (qQ (K:=K) rfl) (pv 1) z3 (fun _ _=>rfl)) z3 (fun _ _=>rfl)) (z0 (qv (qz (K:=K) rfl) (qv (qQ (K:=K) rfl) (pv 1) z3 (fun _ _=>rfl)) z3 (fun _ _=>rfl)) z6)))))
   (z4 (jf (kZ PySem.F.plainAttrs_list PySem.F.slot_list_append PySem.F.type_list_append j4 (qv (qz (K:=K) rfl) (qv (qQ (K:=K) rfl) (pv 1) z3 (fun _ _=>rfl)) z3 (fun _ _=>rfl)) (z0 z8 z6)))
   (z4 (jf (fS PySem.F.plainAttrs_list PySem.F.slot_list_clear PySem.F.type_list_clear gG (qv (qz (K:=K) rfl) (qv (qQ (K:=K) rfl) (pv 1) z3 (fun _ _=>rfl)) z3 (fun _ _=>rfl))))
   (z7 (qr (pv 6)))))))),?_⟩
 have hwl:ws.length=evs.length:=Paired.length hP
 have hel:=he.len
 walk_at "rd"
 intro a0 H1 s1 ha0 e1
 walk_at "rd"
 intro b0 H2 s2 hb0 e2
 walk_at "rd"
 intro t0 H3 s3 ht0 e3
 walk_at "rd"
 intro l H4 s4 hl e4
 have sA:qx H H4:=((s1.trans s2).trans s3).trans s4
 have e14:=s4 _ _ (s3 _ _ (s2 _ _ e1))
 have e24:=s4 _ _ (s3 _ _ e2)
 have e34:=s4 _ _ e3
 have nab:a0≠b0:=qb e1 hb0
 have nal:a0≠l:=qb (s3 _ _ (s2 _ _ e1)) hl
 have nbl:b0≠l:=qb (s3 _ _ e2) hl
 have hSt:fJ t ([l,a0,b0] ++ ex) H4 l [(t0,a0,b0)] iL:=⟨e4,by simp,by
   simp only[kd,List.flatMap_cons,List.flatMap_nil,List.append_nil,List.nodup_cons,List.mem_cons,List.not_mem_nil,or_false,not_or,List.nodup_nil,and_true,not_false_eq_true]
   exact⟨⟨Ne.symm nal,Ne.symm nbl⟩,nab⟩,.cons ⟨e34,by simp,by simp,e14,[],e24,by unfold qt;rfl⟩ .nil,fun c hc=>by
   simp only[List.mem_append,List.mem_cons,List.not_mem_nil,or_false] at hc
   rcases hc with (rfl | rfl | rfl) | hc
   ·exact⟨_,e4⟩
   ·exact⟨_,e14⟩
   ·exact⟨_,e24⟩
   ·obtain⟨o,e⟩:=hex c hc
    exact⟨o,sA _ _ e⟩⟩
 have hms:∀c∈l :: kd [(t0,a0,b0)],H c=none:=fun c hc=>by
  simp only[kd,List.flatMap_cons,List.flatMap_nil,List.append_nil,List.mem_cons,List.not_mem_nil,or_false] at hc
  rcases hc with rfl | rfl | rfl
  ·exact((s1.trans s2).trans s3).free hl
  ·exact ha0
  ·exact s1.free hb0
 clear e1 e2 e3 e4 e14 e24 e34 nab nal nbl s1 s2 s3 s4
 show kY 1 (V.ref l) [some (.ref le),none,none,none,none,none,none] _ _
 walk_at "rd"
 have hL4:=sA _ _ hL
 refine yg (K:=K) (a:=le) (xs:=ws) (fun i σ H'=>(∃(ms:List Addr) (fs:List (Addr × Addr × Addr)) (fr:List Fr) (ls:List Str) (v2 v3 v4 v5:Option V),σ=[some (.ref le),some (.ref l),v2,v3,v4,v5,none]∧qx H H'∧(∀c∈l :: kd fs,H c=none)∧(∀c∈ex,c∈ms)∧fJ t ms H' l fs fr∧cq fr∧kW fr=evs.take i∧gF (evs.take i) (iL,[])=some (fr,ls))∨False)
  ?_ ?_ ?_ ?_
 ·refine .inl ⟨_,_,iL,[],none,none,none,none,rfl,sA,hms,fun c hc=>List.mem_append_right _ hc,hSt,?_,?_,rfl⟩
  ·exact⟨by rw[qS];decide,by rw[jB];exact True.intro,by rw[if_pos rfl];exact⟨rfl,rfl⟩⟩
  ·show (if ([]:List Fr)=[] then [] else _) ++ z9 []=_
   rw[if_pos rfl,z9]
   rfl
 ·intro i σ H' _ q
  obtain⟨_,_,_,_,_,_,_,_,_,z,_⟩:=q.resolve_right (fun z=>z)
  exact qC.of (z _ _ hL)
 ·intro i y σ H5 hi q
  obtain⟨ms,fs,fr,ls,v2,v3,v4,v5,rfl,s5,hm5,hx5,h5,hfo,hff,hrn⟩:=q.resolve_right (fun z=>z)
  clear q
  obtain⟨e,hei,hE0⟩:=Paired.gk hP hi
  have hE:=hE0.same s5
  obtain⟨fr',ls',fY,hrn'⟩:=oK he hei hrn
  obtain⟨hfo',hff'⟩:=oR hfo fY
  rw[hff,←take_snoc hei] at hff'
  have hfl:=hfo.len
  have hfs:fs.length=fr.length:=Paired.length h5.at_
  have hlH:=hm5 l (by simp)
  have hend:∀{ms':List Addr} {fs':List (Addr × Addr × Addr)} {v2 v3 v4 v5:Option V} {H':Hp},qx H H'→(∀c∈l :: kd fs',H c=none)→(∀c∈ex,c∈ms')→fJ t ms' H' l fs' fr'→(∃(ms:List Addr) (fs:List (Addr × Addr × Addr)) (fr:List Fr) (ls:List Str) (w2 w3 w4 w5:Option V),[some (V.ref le),some (V.ref l),v2,v3,v4,v5,none]=[some (.ref le),some (.ref l),w2,w3,w4,w5,none]∧qx H H'∧(∀c∈l :: kd fs,H c=none)∧(∀c∈ex,c∈ms)∧fJ t ms H' l fs fr∧cq fr∧kW fr=evs.take (i + 1)∧gF (evs.take (i + 1)) (iL,[])=some (fr,ls))∨False:=fun s hm hx hs=>.inl ⟨_,_,fr',ls',_,_,_,_,rfl,s,hm,hx,hs,hfo',hff',hrn'⟩
  refine⟨_,?_,fun _ _ z=>z⟩
  by_cases hpl:eW e=true
  ·have hfr:fr'=push fr (tm e):=by
    cases e with
    | pt n rs=>cases hpl
    | dn=>cases hpl
    | lt a b=>cases fY;rfl
    | mu l w a n r=>rw[Ew.take] at fY;split at fY<;>cases fY;rfl
    | my l w a=>rw[Ew.take] at fY;split at fY<;>cases fY;rfl
    | bn l w a r=>rw[Ew.take] at fY;split at fY<;>cases fY;rfl
    | pw l w a r=>rw[Ew.take] at fY;split at fY<;>cases fY;rfl
   have hnn:∃f fs0 n1 rs1 rows1 fr1,fs=f :: fs0∧fr=(n1,rs1,rows1) :: fr1:=by
    match fr,fs,h5.at_,hfo with
    | (n1,rs1,rows1) :: fr1,f :: fs0,_,_=>exact⟨f,fs0,n1,rs1,rows1,fr1,rfl,rfl⟩
   cases e with
   | pt n rs=>cases hpl
   | dn=>cases hpl
   | lt a b=>
    have hE':=hE
    obtain⟨q,rfl,eq⟩:=hE
    walk_at "rd"
    refine⟨_,?_,fun _ _ z=>z⟩
    walk_at "rd"
    obtain⟨f,fs0,n1,rs1,rows1,fr1,rfl,rfl⟩:=hnn
    have h5l:=h5.el
    rw[List.reverse_cons,List.map_append] at h5l
    obtain⟨f1,f2,f3,f4,ys,f5,f6⟩:cv t ms H5 f (n1,rs1,rows1):=by
     match h5.at_ with
     | .cons hf _=>exact hf
    have hyl:ys.length≤66:=by
     have g1:=f6.len
     have g2:=kg rows1
     have g3:=yy n1 rs1 rows1 fr1
     have g4:=congrArg List.length hff
     rw[List.length_take] at g4
     dsimp only at g1
     omega
    refine⟨l,_,_,_,rfl,rfl,qC.of h5l,yx _ _,?_⟩
    refine⟨f.1,_,_,_,rfl,rfl,kU.of f1,rfl,?_⟩
    refine⟨.inl ⟨rfl,_,qC.of f5⟩,?_⟩
    refine⟨_,rfl,.ref q,_,rfl,hE',rfl,fun p6 H6 s6 hp6 y0=>?_⟩
    have hp6m:p6∉ms:=fun z=>by
     obtain⟨o,e⟩:=h5.al p6 z
     rw[hp6] at e
     cases e
    refine⟨f.2.2,_,_,rfl,rfl,s6 _ _ f5,qy (by omega),?_⟩
    intro H7 k7 e7
    refine hend (fs':=f :: fs0) (k7.put (s5.trans s6) (hm5 _ (by simp [kd]))) hm5 hx5 ?_
    rw[hfr]
    exact(h5.same s6).row (y0 ms hp6m) (s6 _ _ f5) k7 e7
   | mu l1 u a n r=>
    have hE':=hE
    obtain⟨q,rfl,eq⟩:=hE
    walk_at "rd"
    refine⟨_,?_,fun _ _ z=>z⟩
    walk_at "rd"
    obtain⟨f,fs0,n1,rs1,rows1,fr1,rfl,rfl⟩:=hnn
    have h5l:=h5.el
    rw[List.reverse_cons,List.map_append] at h5l
    obtain⟨f1,f2,f3,f4,ys,f5,f6⟩:cv t ms H5 f (n1,rs1,rows1):=by
     match h5.at_ with
     | .cons hf _=>exact hf
    have hyl:ys.length≤66:=by
     have g1:=f6.len
     have g2:=kg rows1
     have g3:=yy n1 rs1 rows1 fr1
     have g4:=congrArg List.length hff
     rw[List.length_take] at g4
     dsimp only at g1
     omega
    refine⟨l,_,_,_,rfl,rfl,qC.of h5l,yx _ _,?_⟩
    refine⟨f.1,_,_,_,rfl,rfl,kU.of f1,rfl,?_⟩
    refine⟨.inl ⟨rfl,_,qC.of f5⟩,?_⟩
    refine⟨_,rfl,.ref q,_,rfl,hE',rfl,fun p6 H6 s6 hp6 y0=>?_⟩
    have hp6m:p6∉ms:=fun z=>by
     obtain⟨o,e⟩:=h5.al p6 z
     rw[hp6] at e
     cases e
    refine⟨f.2.2,_,_,rfl,rfl,s6 _ _ f5,qy (by omega),?_⟩
    intro H7 k7 e7
    refine hend (fs':=f :: fs0) (k7.put (s5.trans s6) (hm5 _ (by simp [kd]))) hm5 hx5 ?_
    rw[hfr]
    exact(h5.same s6).row (y0 ms hp6m) (s6 _ _ f5) k7 e7
   | my l1 u a=>
    have hE':=hE
    obtain⟨q,rfl,eq⟩:=hE
    walk_at "rd"
    refine⟨_,?_,fun _ _ z=>z⟩
    walk_at "rd"
    obtain⟨f,fs0,n1,rs1,rows1,fr1,rfl,rfl⟩:=hnn
    have h5l:=h5.el
    rw[List.reverse_cons,List.map_append] at h5l
    obtain⟨f1,f2,f3,f4,ys,f5,f6⟩:cv t ms H5 f (n1,rs1,rows1):=by
     match h5.at_ with
     | .cons hf _=>exact hf
    have hyl:ys.length≤66:=by
     have g1:=f6.len
     have g2:=kg rows1
     have g3:=yy n1 rs1 rows1 fr1
     have g4:=congrArg List.length hff
     rw[List.length_take] at g4
     dsimp only at g1
     omega
    refine⟨l,_,_,_,rfl,rfl,qC.of h5l,yx _ _,?_⟩
    refine⟨f.1,_,_,_,rfl,rfl,kU.of f1,rfl,?_⟩
    refine⟨.inl ⟨rfl,_,qC.of f5⟩,?_⟩
    refine⟨_,rfl,.ref q,_,rfl,hE',rfl,fun p6 H6 s6 hp6 y0=>?_⟩
    have hp6m:p6∉ms:=fun z=>by
     obtain⟨o,e⟩:=h5.al p6 z
     rw[hp6] at e
     cases e
    refine⟨f.2.2,_,_,rfl,rfl,s6 _ _ f5,qy (by omega),?_⟩
    intro H7 k7 e7
    refine hend (fs':=f :: fs0) (k7.put (s5.trans s6) (hm5 _ (by simp [kd]))) hm5 hx5 ?_
    rw[hfr]
    exact(h5.same s6).row (y0 ms hp6m) (s6 _ _ f5) k7 e7
   | bn l1 u a r=>
    have hE':=hE
    obtain⟨q,rfl,eq⟩:=hE
    walk_at "rd"
    refine⟨_,?_,fun _ _ z=>z⟩
    walk_at "rd"
    obtain⟨f,fs0,n1,rs1,rows1,fr1,rfl,rfl⟩:=hnn
    have h5l:=h5.el
    rw[List.reverse_cons,List.map_append] at h5l
    obtain⟨f1,f2,f3,f4,ys,f5,f6⟩:cv t ms H5 f (n1,rs1,rows1):=by
     match h5.at_ with
     | .cons hf _=>exact hf
    have hyl:ys.length≤66:=by
     have g1:=f6.len
     have g2:=kg rows1
     have g3:=yy n1 rs1 rows1 fr1
     have g4:=congrArg List.length hff
     rw[List.length_take] at g4
     dsimp only at g1
     omega
    refine⟨l,_,_,_,rfl,rfl,qC.of h5l,yx _ _,?_⟩
    refine⟨f.1,_,_,_,rfl,rfl,kU.of f1,rfl,?_⟩
    refine⟨.inl ⟨rfl,_,qC.of f5⟩,?_⟩
    refine⟨_,rfl,.ref q,_,rfl,hE',rfl,fun p6 H6 s6 hp6 y0=>?_⟩
    have hp6m:p6∉ms:=fun z=>by
     obtain⟨o,e⟩:=h5.al p6 z
     rw[hp6] at e
     cases e
    refine⟨f.2.2,_,_,rfl,rfl,s6 _ _ f5,qy (by omega),?_⟩
    intro H7 k7 e7
    refine hend (fs':=f :: fs0) (k7.put (s5.trans s6) (hm5 _ (by simp [kd]))) hm5 hx5 ?_
    rw[hfr]
    exact(h5.same s6).row (y0 ms hp6m) (s6 _ _ f5) k7 e7
   | pw l1 u a r=>
    have hE':=hE
    obtain⟨q,rfl,eq⟩:=hE
    walk_at "rd"
    refine⟨_,?_,fun _ _ z=>z⟩
    walk_at "rd"
    obtain⟨f,fs0,n1,rs1,rows1,fr1,rfl,rfl⟩:=hnn
    have h5l:=h5.el
    rw[List.reverse_cons,List.map_append] at h5l
    obtain⟨f1,f2,f3,f4,ys,f5,f6⟩:cv t ms H5 f (n1,rs1,rows1):=by
     match h5.at_ with
     | .cons hf _=>exact hf
    have hyl:ys.length≤66:=by
     have g1:=f6.len
     have g2:=kg rows1
     have g3:=yy n1 rs1 rows1 fr1
     have g4:=congrArg List.length hff
     rw[List.length_take] at g4
     dsimp only at g1
     omega
    refine⟨l,_,_,_,rfl,rfl,qC.of h5l,yx _ _,?_⟩
    refine⟨f.1,_,_,_,rfl,rfl,kU.of f1,rfl,?_⟩
    refine⟨.inl ⟨rfl,_,qC.of f5⟩,?_⟩
    refine⟨_,rfl,.ref q,_,rfl,hE',rfl,fun p6 H6 s6 hp6 y0=>?_⟩
    have hp6m:p6∉ms:=fun z=>by
     obtain⟨o,e⟩:=h5.al p6 z
     rw[hp6] at e
     cases e
    refine⟨f.2.2,_,_,rfl,rfl,s6 _ _ f5,qy (by omega),?_⟩
    intro H7 k7 e7
    refine hend (fs':=f :: fs0) (k7.put (s5.trans s6) (hm5 _ (by simp [kd]))) hm5 hx5 ?_
    rw[hfr]
    exact(h5.same s6).row (y0 ms hp6m) (s6 _ _ f5) k7 e7
  cases e with
  | lt a b=>exact absurd rfl hpl
  | mu l w a n r=>exact absurd rfl hpl
  | my l w a=>exact absurd rfl hpl
  | bn l w a r=>exact absurd rfl hpl
  | pw l w a r=>exact absurd rfl hpl
  | pt n rs=>
   obtain⟨q,r,rfl,eq,er⟩:=hE
   rw[Ew.take] at fY
   split at fY
   ·cases fY
   cases fY
   walk_at "rd"
   refine⟨.inl ⟨rfl,_,qC.of h5.el⟩,?_⟩
   walk_at "rd"
   refine⟨r,_,rfl,.inl (qC.of er),?_⟩
   intro a6 H6 s6 ha6 e6
   walk_at "rd"
   intro b7 H7 s7 hb7 e7
   walk_at "rd"
   intro t8 H8 s8 ht8 e8
   have h8:fJ t (b7 :: a6 :: ms) H8 l fs fr:=((h5.add s6 ha6 e6).add s7 hb7 e7).same s8
   refine⟨l,_,_,rfl,rfl,h8.el,qy (by rw[List.length_map,List.length_reverse];omega),?_⟩
   intro H9 k9 e9
   refine hend (k9.put (((s5.trans s6).trans s7).trans s8) hlH) (fun c hc=>?_) (fun c hc=>List.mem_cons_of_mem _ (List.mem_cons_of_mem _ (hx5 c hc))) (h8.push (h5.new ha6) ((h5.same s6).new hb7) (qb e6 hb7) (by simp) (by simp) e8 (s8 _ _ (s7 _ _ e6)) (s8 _ _ e7) k9 e9)
   rw[xp] at hc
   (rcases List.mem_cons.mp hc with rfl | hc)
   ·exact hlH
   (rcases List.mem_cons.mp hc with rfl | hc)
   ·exact s5.free ha6
   (rcases List.mem_cons.mp hc with rfl | hc)
   ·exact(s5.trans s6).free hb7
   ·exact hm5 c (List.mem_cons_of_mem _ hc)
  | dn=>
   obtain⟨q,rfl,eq⟩:=hE
   obtain⟨n1,rs1,rows1,n2,rs2,rows2,fr2,hfr⟩:∃n1 rs1 rows1 n2 rs2 rows2 fr2,fr=(n1,rs1,rows1) :: (n2,rs2,rows2) :: fr2:=by
    match fr,fY with
    | (a1,a2,a3) :: (b1,b2,b3) :: r,_=>exact⟨a1,a2,a3,b1,b2,b3,r,rfl⟩
    | [_],h=>cases h
    | [],h=>cases h
   subst hfr
   cases fY
   obtain⟨f,f',fs2,rfl⟩:∃f f' fs2,fs=f :: f' :: fs2:=by
    match fs,h5.at_ with
    | f :: f' :: r,_=>exact⟨f,f',r,rfl⟩
   have h5l:=h5.el
   rw[List.reverse_cons,List.map_append] at h5l
   walk_at "rd"
   refine⟨_,?_,fun _ _ z=>z⟩
   walk_at "rd"
   have hpt:(Ew.pt n1 rs1).ok:=he.ok _ (List.mem_of_mem_take (i:=i) (by
    rw[←hff]
    show _∈(if ((n2,rs2,rows2) :: fr2:List Fr)=[] then [] else kW ((n2,rs2,rows2) :: fr2) ++ [Ew.pt n1 rs1]) ++ z9 rows1
    rw[if_neg (by simp)]
    simp))
   have hrl:=hpt.2.2
   have nd:=h5.nd
   rw[xp,xp] at nd
   simp only[List.nodup_cons,List.mem_cons,not_or] at nd
   refine⟨l,_,V.ref f.1,rfl,rfl,h5l,by simp,?_⟩
   intro H6 k6 e6
   have e6':H6 l=some (.lst ((f' :: fs2).reverse.map fun f=>V.ref f.1)):=by rw[e6];simp
   obtain⟨h6,hf6⟩:=h5.pop k6 e6'
   obtain⟨f1,f2,f3,f4,ys,f5,f6⟩:=hf6
   obtain⟨u1,u2,u3,u4,ys2,u5,u6⟩:cv t ms H6 f' (n2,rs2,rows2):=by
    match h6.at_ with
    | .cons hf _=>exact hf
   have hyl:ys2.length≤66:=by
    have g1:=u6.len
    have g2:=kg rows2
    have g3:=yy n2 rs2 rows2 fr2
    have g4:=congrArg List.length hff
    have g5:(kW ((n2,rs2,rows2) :: fr2)).length≤(kW ((n1,rs1,rows1) :: (n2,rs2,rows2) :: fr2)).length:=by
     show _≤((if ((n2,rs2,rows2) :: fr2:List Fr)=[] then [] else kW ((n2,rs2,rows2) :: fr2) ++ [Ew.pt n1 rs1]) ++ z9 rows1).length
     rw[if_neg (by simp),List.length_append,List.length_append]
     omega
    rw[List.length_take] at g4
    dsimp only at g1
    omega
   have h6l:=e6'
   rw[List.reverse_cons,List.map_append] at h6l
   walk_at "rd"
   refine⟨l,_,_,_,rfl,rfl,qC.of h6l,yx _ _,?_⟩
   refine⟨f'.1,_,_,_,rfl,rfl,kU.of u1,rfl,?_⟩
   refine⟨.inl ⟨rfl,_,qC.of u5⟩,?_⟩
   walk_at "rd"
   intro p dx hp hdx hne
   have sM:=vH (o:=HO.own p) (o2:=HO.ins t.qa dx []) hp hdx
   refine⟨p,dx,f.2.1,f.2.2,n1,rs1,ys,rfl,qg,sM _ _ f4,sM _ _ f5,fun H7 o7 h7=>⟨rfl,?_⟩⟩
   have s67:qx H6 H7:=yh hp hdx o7
   obtain⟨dx7,a7,b7,g1,g2,g3,g4,g5⟩:=h7.back sM
   have hnm:∀{c:Addr},H6 c=none→c∉ms:=fun hc z=>by
    obtain⟨o,e⟩:=h6.al _ z
    rw[hc] at e
    cases e
   have y0:qF t ms H7 (.pt n1 rs1 rows1) (.ref p):=by
    unfold qF
    exact⟨p,dx7,a7,b7,ys,rfl,hnm hp,hnm g4,hnm g5,g1,g2,g3,f6.move (Fm.of s67) fun c hc=>.inl hc⟩
   refine⟨f'.2.2,_,_,rfl,rfl,s67 _ _ u5,qy (by omega),?_⟩
   intro H8 k8 e8
   have h8:=(h6.same s67).row y0 (s67 _ _ u5) k8 e8
   have f48:=k8.look (s67 _ _ f4) nd.2.1.2.2.1
   have f58:=k8.look (s67 _ _ f5) nd.2.2.1.2.1
   walk_at "rd"
   intro H9 k9 e9
   have h9:=h8.off f2 (by rw[xp];simp only[List.mem_cons,not_or];exact⟨fun z=>nd.1.1 z.symm,nd.2.1.2.1,nd.2.1.2.2.1,nd.2.1.2.2.2⟩) f48 k9 ⟨_,e9⟩
   have f59:=k9.look f58 (fun z=>nd.2.1.1 z.symm)
   walk_at "rd"
   try (refine⟨f.2.2,_,rfl,rfl,f59,?_⟩)
   intro H10 k10 e10
   have h10:=h9.off f3 (by rw[xp];simp only[List.mem_cons,not_or];exact⟨fun z=>nd.1.2.1 z.symm,nd.2.2.1.1,nd.2.2.1.2.1,nd.2.2.1.2.2⟩) f59 k10 ⟨_,e10⟩
   exact hend (k10.put (k9.put (k8.put ((k6.put s5 hlH).trans s67) (hm5 _ (by simp [kd]))) (hm5 _ (by simp [kd]))) (hm5 _ (by simp [kd]))) (fun c hc=>hm5 c (by rw[xp];simp only[List.mem_cons] at hc ⊢;exact hc.elim .inl fun z=>.inr (.inr (.inr z)))) hx5 h10
 ·intro σ H5 q
  obtain⟨ms,fs,fr,ls,v2,v3,v4,v5,rfl,s5,hm5,hx5,h5,hfo,hff,hrn⟩:=q.resolve_right (fun z=>z)
  clear q
  rw[hwl,List.take_length] at hff hrn
  have hl1:=ag he hrn
  obtain⟨f,rows,rfl,rfl⟩:∃(f:Addr × Addr × Addr) (rows:List Rw),fs=[f]∧fr=[((("whole" : Str),([]:List Str),rows):Fr)]:=by
   match fr,fs,h5.at_,hfo,hl1 with
   | [(n1,rs1,rows1)],[f],_,hfo,_=>
    have h3:=hfo.2.2
    rw[if_pos rfl] at h3
    exact⟨f,rows1,rfl,by rw[h3.1,h3.2]⟩
  have hrows:z9 rows=evs:=by
   rw[←hff]
   show _=(if ([]:List Fr)=[] then [] else _) ++ z9 rows
   rw[if_pos rfl]
   rfl
  have hk2:=hfo.2.1
  have hd2:qS rows≤6:=by have:=hfo.1;omega
  obtain⟨f1,f2,f3,f4,ys,f5,f6⟩:cv t ms H5 f ("whole",[],rows):=by
   match h5.at_ with
   | .cons hf _=>exact hf
  have el:H5 l=some (.lst [V.ref f.1]):=h5.el
  have nd:=h5.nd
  rw[xp] at nd
  simp only[List.nodup_cons,List.mem_cons,not_or] at nd
  walk_at "rd"
  refine⟨l,_,_,_,rfl,rfl,qC.of el,rfl,?_⟩
  refine⟨f.1,_,_,_,rfl,rfl,kU.of f1,rfl,?_⟩
  walk_at "rd"
  refine⟨l,_,_,_,rfl,rfl,qC.of el,rfl,?_⟩
  refine⟨f.1,_,_,_,rfl,rfl,kU.of f1,rfl,?_⟩
  walk_at "rd"
  intro p dx hp hdx hne
  have sM:=vH (o:=HO.own p) (o2:=HO.ins t.qa dx []) hp hdx
  refine⟨p,dx,f.2.1,f.2.2,"whole",[],ys,rfl,qg,sM _ _ f4,sM _ _ f5,fun H7 o7 h7=>⟨rfl,?_⟩⟩
  have s57:qx H5 H7:=yh hp hdx o7
  obtain⟨dx7,a7,b7,g1,g2,g3,g4,g5⟩:=h7.back sM
  have el7:=s57 _ _ el
  have f17:=s57 _ _ f1
  have f47:=s57 _ _ f4
  have f57:=s57 _ _ f5
  walk_at "rd"
  refine⟨l,_,_,_,rfl,rfl,qC.of el7,rfl,?_⟩
  refine⟨f.1,_,_,_,rfl,rfl,kU.of f17,rfl,?_⟩
  refine⟨.inl ⟨rfl,_,qC.of f47⟩,?_⟩
  refine⟨f.2.1,_,_,rfl,rfl,f47,qy (by simp only[List.map_nil,List.length_nil];omega),?_⟩
  intro H8 k8 e8
  have el8:=k8.look el7 (fun z=>nd.1.1 z)
  have f18:=k8.look f17 (xU f17 f47 (by intro z;cases z))
  have f58:=k8.look f57 (fun z=>nd.2.1.1 z.symm)
  walk_at "rd"
  refine⟨l,_,_,_,rfl,rfl,qC.of el8,rfl,?_⟩
  refine⟨f.1,_,_,_,rfl,rfl,kU.of f18,rfl,?_⟩
  refine⟨.inl ⟨rfl,_,qC.of f58⟩,?_⟩
  refine⟨f.2.2,_,rfl,rfl,f58,?_⟩
  intro H9 k9 e9
  have na7:a7≠f.2.1:=fun z=>by rw[z,f4] at g4;cases g4
  have na8:a7≠f.2.2:=fun z=>by rw[z,f5] at g4;cases g4
  have nb7:b7≠f.2.1:=fun z=>by rw[z,f4] at g5;cases g5
  have nb8:b7≠f.2.2:=fun z=>by rw[z,f5] at g5;cases g5
  have g19:=k9.look (k8.look g1 (xU g1 f47 (by intro z;cases z))) (xU g1 f57 (by intro z;cases z))
  have g29:=k9.look (k8.look g2 na7) na8
  have g39:=k9.look (k8.look g3 nb7) nb8
  have sE:qx H H9:=k9.put (k8.put (s5.trans s57) (hm5 _ (by simp [kd]))) (hm5 _ (by simp [kd]))
  have hR9:qt t ex H9 rows ys:=f6.move (fun c o hc e=>k9.look (k8.look (s57 _ _ e) (fun z=>hc (by rw[z];exact f2))) (fun z=>hc (by rw[z];exact f3))) fun c hc=>.inl (hx5 c hc)
  have hne5:∀{c:Addr},H5 c=none→c∉ex:=fun hc z=>by
   obtain⟨o,e⟩:=h5.al _ (hx5 _ z)
   rw[hc] at e
   cases e
  walk_at "rd"
  refine kk p rows H9 sE hrows hk2 hd2 ?_
  unfold qF
  exact⟨p,dx7,a7,b7,ys,rfl,hne5 hp,hne5 g4,hne5 g5,g19,g29,g39,hR9⟩
end
theorem Jo {c:Int} {ys:List V} (hlen:ys.length=104) (hp:∀(i:Nat) (v:V),i < 104→ys[i]?=some v→v=.str (ka c (i:Int))):ys=(NN c).map V.str:=by
 apply List.ext_getElem?
 intro i
 by_cases hi:i < 104
 ·have hi':i < ys.length:=by omega
  rw[List.getElem?_eq_getElem hi',List.getElem?_map]
  unfold NN
  rw[List.getElem?_map,List.getElem?_range hi]
  exact congrArg some (hp i _ hi (List.getElem?_eq_getElem hi'))
 ·rw[List.getElem?_eq_none_iff.mpr (by omega),List.getElem?_eq_none_iff.mpr (by rw[List.length_map,gw];omega)]
theorem bC.same {t:ja} {H H':Hp} {p:Addr} {ps as:List Str} {x9:List (Str × Str)} {rw:Rw} (h:bC t H p ps as x9 rw) (s:qx H H'):bC t H' p ps as x9 rw:=by
 obtain⟨dx,a,b,c,x,vs,e1,e2,e3,e4,h5,h6⟩:=h
 exact⟨dx,a,b,c,x,vs,s _ _ e1,s _ _ e2,s _ _ e3,s _ _ e4,Paired.imp' (fun _ _ z=>z.same s) h5,h6.move (Fm.of s) fun _ h=>.inl h⟩
theorem iU {K:PySem.W.Frag} {a b:Addr} {xs ys:List V} {E:L2.St→Hp→Prop} {B:V→L2.St→Hp→(L2.St→Hp→Prop)→Prop} {σ:L2.St} {H:Hp} (Pv:Nat→L2.St→Hp→Prop) (hn:xs.length=ys.length) (h0:Pv 0 σ H) (hl:∀i σ H,i≤xs.length→Pv i σ H→qC K H a xs∧qC K H b ys)
  (hs:∀i x y σ H tp,xs[i]?=some x→ys[i]?=some y→Pv i σ H→H tp=none→B (.ref tp) σ (upd H tp (.tup [x,y])) (Pv (i + 1))) (hd:∀σ H,Pv xs.length σ H→E σ H) :
  ∃W:Nat→Nat→L2.St→Hp→Prop,(∃m,W 0 m σ H)∧∀i m σ H,W i m σ H→
   ((Jn K a b).stop i H∧E σ H)∨((Jn K a b).go i H∧∃N:L2.St→Hp→Prop,(∀σ' H',N σ' H'→∃m',m' < m∧W (i + 1) m' σ' H')∧∀x H',(Jn K a b).aD i H x H'→B x σ H' N):=by
 refine⟨fun i m σ H=>m=xs.length - i∧i≤xs.length∧Pv i σ H,⟨xs.length,by simp,Nat.zero_le _,h0⟩,?_⟩
 rintro i m σ H ⟨rfl,hi,p⟩
 obtain⟨q1,q2⟩:=hl i σ H hi p
 by_cases hlt:i < xs.length
 ·refine .inr ⟨⟨xs,ys,xs[i],ys[i]'(by omega),q1,q2,List.getElem?_eq_getElem hlt,List.getElem?_eq_getElem (by omega)⟩,Pv (i + 1),fun σ' H' p'=>⟨xs.length - (i + 1),by omega,rfl,hlt,p'⟩,fun v H' z=>?_⟩
  obtain⟨tp,x,y,ht,rfl,rfl,h1,h2⟩:=z
  exact hs i x y σ H tp (h1 xs q1) (h2 ys q2) p ht
 ·have e:i=xs.length:=by omega
  subst e
  exact .inl ⟨⟨xs,ys,q1,q2,.inl (Nat.le_refl _)⟩,hd σ H p⟩
section
variable {P:Program} {w:World} {K:PySem.W.Frag} {mg:Str→Option Value} {base:Heap} {t:ja}
end
mutual
noncomputable def je:Rw→List Rw
 | .lt _ _=>[]
 | .cl _ _ _ _ _ _=>[]
 | .pt n rs rows=>.pt n rs rows :: xm rows
noncomputable def xm:List Rw→List Rw
 | []=>[]
 | r :: rs=>je r ++ xm rs
end
noncomputable abbrev cx:=Str × Nat × Nat × Nat
mutual
noncomputable def fA (o:Nat):Rw→List cx
 | .lt _ _=>[]
 | .cl _ _ _ _ _ _=>[]
 | .pt n _ rows=>(n,o,o + ((z9 rows).length + 2),qS rows) :: pk (o + 1) rows
noncomputable def pk (o:Nat):List Rw→List cx
 | []=>[]
 | r :: rs=>fA o r ++ pk (o + (qh r).length) rs
end
noncomputable def vV (d:Nat):Ew→Nat
 | .pt _ _=>d + 1
 | .dn=>d - 1
 | _=>d
noncomputable def kF:List Ew→Nat→Nat→Nat→Nat × Nat
 | _,0,dm,at_=>(at_,dm)
 | [],_ + 1,dm,at_=>(at_,dm)
 | e :: r,d + 1,dm,at_=>kF r (vV (d + 1) e) (max dm (vV (d + 1) e)) (at_ + 1)
theorem wg (e:Ew) (r:List Ew) (d dm a:Nat):kF (e :: r) (d + 1) dm a=kF r (vV (d + 1) e) (max dm (vV (d + 1) e)) (a + 1):=rfl
theorem tO (k:Int) (l u a:Str) (n:Int) (r:Str):∃e,qh (.cl k l u a n r)=[e]∧(∀d,vV d e=d)∧(∀m rs,e≠.pt m rs):=by
 rw[qh]
 split
 ·exact⟨_,rfl,fun _=>rfl,fun _ _ h=>by cases h⟩
 split
 ·exact⟨_,rfl,fun _=>rfl,fun _ _ h=>by cases h⟩
 split
 ·exact⟨_,rfl,fun _=>rfl,fun _ _ h=>by cases h⟩
 ·exact⟨_,rfl,fun _=>rfl,fun _ _ h=>by cases h⟩
mutual
theorem scan1:∀(r:Rw) (post:List Ew) (d dm a:Nat),d + 1≤dm→kF (qh r ++ post) (d + 1) dm a=kF post (d + 1) (max dm (d + 1 + xx r)) (a + (qh r).length)
 | .lt n v,post,d,dm,a,h=>by
  rw[qh,xx]
  show kF post (d + 1) (max dm (d + 1)) (a + 1)=_
  rfl
 | .cl k l u x n r,post,d,dm,a,h=>by
  obtain⟨e,he,hd,_⟩:=tO k l u x n r
  rw[he,xx,List.singleton_append,wg,hd]
  rfl
 | .pt n rs rows,post,d,dm,a,h=>by
  rw[qh,xx,List.cons_append,wg,List.append_assoc]
  show kF (z9 rows ++ ([Ew.dn] ++ post)) (d + 1 + 1) (max dm (d + 1 + 1)) (a + 1)=_
  rw[af rows ([Ew.dn] ++ post) (d + 1) (max dm (d + 1 + 1)) (a + 1) (by omega),List.singleton_append,wg]
  show kF post (d + 1) _ _=_
  congr 1
  ·show max (max (max dm (d + 1 + 1)) (d + 1 + 1 + qS rows)) (d + 1 + 1 - 1)=_
   omega
  ·simp only[List.length_cons,List.length_append,List.length_nil];omega
theorem af:∀(rows:List Rw) (post:List Ew) (d dm a:Nat),d + 1≤dm→kF (z9 rows ++ post) (d + 1) dm a=kF post (d + 1) (max dm (d + 1 + qS rows)) (a + (z9 rows).length)
 | [],post,d,dm,a,h=>by
  rw[z9,qS,List.nil_append,Nat.add_zero,Nat.max_eq_left h]
  rfl
 | r :: rs,post,d,dm,a,h=>by
  rw[z9,qS,List.append_assoc,scan1 r _ d dm a h,af rs post d _ _ (by omega),List.length_append]
  congr 1<;>omega
end
theorem oV (rows:List Rw) (post:List Ew) (a:Nat):kF (z9 rows ++ (.dn :: post)) 1 1 a=(a + (z9 rows).length + 1,qS rows + 1):=by
 rw[af rows (.dn :: post) 0 1 a (Nat.le_refl _),wg]
 show kF post 0 _ _=_
 have e:max (max 1 (0 + 1 + qS rows)) (vV (0 + 1) Ew.dn)=qS rows + 1:=by show max (max 1 (0 + 1 + qS rows)) 0=_;omega
 rw[e]
 cases post<;>rfl
noncomputable def xW (evs:List Ew) (k:Nat):Option cx:=match evs[k]? with
 | some (.pt n _)=>some (n,k,(kF (evs.drop (k + 1)) 1 1 (k + 1)).1,(kF (evs.drop (k + 1)) 1 1 (k + 1)).2 - 1)
 | _=>none
theorem bq {evs:List Ew} {k:Nat} {e:Ew} (h:evs[k]?=some e) (hn:∀m rs,e≠.pt m rs):xW evs k=none:=by
 unfold xW
 rw[h]
 cases e with
 | pt m rs=>exact absurd rfl (hn m rs)
 | _=>rfl
theorem uw (pre:List Ew) (e:Ew) (post:List Ew):(pre ++ e :: post)[pre.length]?=some e:=by simp
mutual
theorem Xl:∀(r:Rw) (evs pre post:List Ew),evs=pre ++ (qh r ++ post)→(List.range' pre.length (qh r).length).filterMap (xW evs)=fA pre.length r
 | .lt n v,evs,pre,post,h=>by
  rw[qh] at h
  rw[fA,qh]
  have h1:xW evs pre.length=none:=bq (e:=.lt n v) (by rw[h];exact uw _ _ _) fun _ _ z=>by cases z
  show ([pre.length]:List Nat).filterMap (xW evs)=[]
  rw[List.filterMap_cons,h1]
  rfl
 | .cl k l u a n r,evs,pre,post,h=>by
  obtain⟨e,he,_,hn⟩:=tO k l u a n r
  rw[he] at h
  rw[fA,he]
  have h1:xW evs pre.length=none:=bq (e:=e) (by rw[h];exact uw _ _ _) hn
  show ([pre.length]:List Nat).filterMap (xW evs)=[]
  rw[List.filterMap_cons,h1]
  rfl
 | .pt n rs rows,evs,pre,post,h=>by
  rw[qh] at h
  rw[fA,qh]
  have hl:(Ew.pt n rs :: (z9 rows ++ [Ew.dn])).length=1 + (z9 rows).length + 1:=by simp only[List.length_cons,List.length_append,List.length_nil];omega
  have e1:xW evs pre.length=some (n,pre.length,pre.length + ((z9 rows).length + 2),qS rows):=by
   unfold xW
   have h0:evs[pre.length]?=some (.pt n rs):=by rw[h];exact uw _ _ _
   have h2:evs.drop (pre.length + 1)=z9 rows ++ (.dn :: post):=by
    rw[h,List.drop_append,List.drop_eq_nil_of_le (by omega),show pre.length + 1 - pre.length=1 by omega]
    simp
   rw[h0,h2,oV]
   show some (n,pre.length,pre.length + 1 + (z9 rows).length + 1,qS rows + 1 - 1)=_
   rw[show pre.length + 1 + (z9 rows).length + 1=pre.length + ((z9 rows).length + 2) by omega,Nat.add_sub_cancel]
  have e2:xW evs (pre.length + (1 + (z9 rows).length))=none:=bq (e:=.dn) (by
   rw[h]
   have:pre ++ (Ew.pt n rs :: (z9 rows ++ [Ew.dn]) ++ post)=(pre ++ (.pt n rs :: z9 rows)) ++ .dn :: post:=by simp
   rw[this,show pre.length + (1 + (z9 rows).length)=(pre ++ (Ew.pt n rs :: z9 rows)).length by simp;omega]
   exact uw _ _ _) fun _ _ z=>by cases z
  rw[hl,←List.range'_append_1,←List.range'_append_1]
  rw[List.filterMap_append,List.filterMap_append]
  have ih:=aQ rows evs (pre ++ [.pt n rs]) (.dn :: post) (by rw[h];simp)
  rw[List.length_append,List.length_singleton] at ih
  rw[show List.range' pre.length 1=[pre.length] from rfl,List.filterMap_cons,e1,ih]
  rw[show List.range' (pre.length + (1 + (z9 rows).length)) 1=[pre.length + (1 + (z9 rows).length)] from rfl,List.filterMap_cons,e2]
  simp
theorem aQ:∀(rows:List Rw) (evs pre post:List Ew),evs=pre ++ (z9 rows ++ post)→(List.range' pre.length (z9 rows).length).filterMap (xW evs)=pk pre.length rows
 | [],evs,pre,post,h=>by rw[z9,pk];rfl
 | r :: rs,evs,pre,post,h=>by
  rw[z9] at h
  rw[z9,pk,List.length_append,←List.range'_append_1,List.filterMap_append,Xl r evs pre (z9 rs ++ post) (by rw[h];simp)]
  have ih:=aQ rs evs (pre ++ qh r) post (by rw[h];simp)
  rw[List.length_append] at ih
  rw[ih]
end
theorem oP (rows:List Rw):(List.range (z9 rows).length).filterMap (xW (z9 rows))=pk 0 rows:=by
 rw[List.range_eq_range']
 exact aQ rows (z9 rows) [] [] (by simp)
noncomputable def kC (m:Nat) (ss:List cx):Nat:=ss.foldl (fun m s=>max m (s.2.2.2 + 1)) m
mutual
theorem JG:∀(r:Rw) (o m:Nat),kC m (fA o r)=max m (xx r)
 | .lt _ _,o,m=>by rw[fA,xx];exact(Nat.max_eq_left (Nat.zero_le _)).symm
 | .cl _ _ _ _ _ _,o,m=>by rw[fA,xx];exact(Nat.max_eq_left (Nat.zero_le _)).symm
 | .pt n rs rows,o,m=>by
  rw[fA,xx]
  show kC (max m (qS rows + 1)) (pk (o + 1) rows)=_
  rw[iV rows]
  omega
theorem iV:∀(rows:List Rw) (o m:Nat),kC m (pk o rows)=max m (qS rows)
 | [],o,m=>by rw[pk,qS];exact(Nat.max_eq_left (Nat.zero_le _)).symm
 | r :: rs,o,m=>by
  rw[pk,qS,kC,List.foldl_append]
  have h1:=JG r o m
  unfold kC at h1
  rw[h1]
  have h2:=iV rs (o + (qh r).length) (max m (xx r))
  unfold kC at h2
  rw[h2]
  omega
end
noncomputable def Qc (evs:List Ew) (r:Rw) (s:cx):Prop:=∃rs rows,r=.pt s.1 rs rows∧s.2.1 + (qh r).length=s.2.2.1∧(evs.drop s.2.1).take (s.2.2.1 - s.2.1)=qh r∧s.2.2.2=qS rows
mutual
theorem Xt:∀(r:Rw) (evs pre post:List Ew),evs=pre ++ (qh r ++ post)→Paired (Qc evs) (je r) (fA pre.length r)
 | .lt _ _,evs,pre,post,h=>by rw[je,fA];exact .nil
 | .cl _ _ _ _ _ _,evs,pre,post,h=>by rw[je,fA];exact .nil
 | .pt n rs rows,evs,pre,post,h=>by
  rw[je,fA]
  have hl:(qh (.pt n rs rows)).length=(z9 rows).length + 2:=by rw[qh];simp
  refine .cons ⟨rs,rows,rfl,by rw[hl],?_,rfl⟩ ?_
  ·show (evs.drop pre.length).take (pre.length + ((z9 rows).length + 2) - pre.length)=_
   rw[Nat.add_sub_cancel_left,←hl,h,List.drop_left,List.take_left]
  ·have ih:=aJ rows evs (pre ++ [.pt n rs]) (.dn :: post) (by rw[h,qh];simp)
   rw[List.length_append,List.length_singleton] at ih
   exact ih
theorem aJ:∀(rows:List Rw) (evs pre post:List Ew),evs=pre ++ (z9 rows ++ post)→Paired (Qc evs) (xm rows) (pk pre.length rows)
 | [],evs,pre,post,h=>by rw[xm,pk];exact .nil
 | r :: rs,evs,pre,post,h=>by
  rw[z9] at h
  rw[xm,pk]
  have ih:=aJ rs evs (pre ++ qh r) post (by rw[h];simp)
  rw[List.length_append] at ih
  exact Paired.app (Xt r evs pre (z9 rs ++ post) (by rw[h];simp)) ih
end
noncomputable def uE:Ew→Option Str
 | .pt n _=>some n
 | _=>none
noncomputable def gq:Rw→Str
 | .pt n _ _=>n
 | _=>""
noncomputable def ie:Ew→Bool
 | .mu _ _ _ _ _=>true
 | .my _ _ _=>true
 | .bn _ _ _ _=>true
 | .pw _ _ _ _=>true
 | _=>false
theorem rp (k:Int) (l u a:Str) (n:Int) (r:Str):∃e,qh (.cl k l u a n r)=[e]∧uE e=none∧ie e=true:=by
 rw[qh]
 split
 ·exact⟨_,rfl,rfl,rfl⟩
 split
 ·exact⟨_,rfl,rfl,rfl⟩
 split
 ·exact⟨_,rfl,rfl,rfl⟩
 ·exact⟨_,rfl,rfl,rfl⟩
mutual
theorem J2:∀r:Rw,(qh r).filterMap uE=(je r).map gq
 | .lt _ _=>by rw[qh,je];rfl
 | .cl k l u a n r=>by
  obtain⟨e,he,h1,_⟩:=rp k l u a n r
  rw[he,je,List.filterMap_cons,h1]
  rfl
 | .pt n rs rows=>by
  rw[qh,je,List.filterMap_cons,List.filterMap_append,ou rows]
  simp [uE,gq]
theorem ou:∀rows:List Rw,(z9 rows).filterMap uE=(xm rows).map gq
 | []=>by rw[z9,xm];rfl
 | r :: rs=>by rw[z9,xm,List.filterMap_append,J2 r,ou rs,List.map_append]
end
noncomputable def fN:List Ew→Nat→Prop
 | _,0=>True
 | [],_ + 1=>False
 | e :: r,d + 1=>fN r (vV (d + 1) e)
theorem uq:∀{es:List Ew} {D d:Nat},cU D es=some 0→d≤D→fN es d
 | _,_,0,_,_=>by simp [fN]
 | [],D,d + 1,h,hd=>by
  rw[cU] at h
  cases h
  omega
 | e :: r,D,d + 1,h,hd=>by
  rw[cU] at h
  cases q:dp D e with
  | none=>rw[q] at h;cases h
  | some D'=>
   rw[q] at h
   have h':cU D' r=some 0:=h
   show fN r (vV (d + 1) e)
   refine uq h' ?_
   cases e with
   | pt n rs=>
    rw[dp] at q
    split at q
    ·cases q
     show d + 1 + 1≤D + 1
     omega
    ·cases q
   | dn=>
    rw[dp] at q
    split at q
    ·cases q
     show d + 1 - 1≤D - 1
     omega
    ·cases q
   | _=>cases q;exact hd
theorem iG {evs:List Ew} {n:Str} {rs:List Str} {k:Nat} (h:cU 0 evs=some 0) (hk:evs[k]?=some (.pt n rs)):fN (evs.drop (k + 1)) 1:=by
 have e1:evs=evs.take k ++ (.pt n rs :: evs.drop (k + 1)):=by
  have hlt:=(List.getElem?_eq_some_iff.mp hk).1
  have h2:=(List.getElem?_eq_some_iff.mp hk).2
  rw[←h2,List.getElem_cons_drop,List.take_append_drop]
 rw[e1,mC] at h
 cases q:cU 0 (evs.take k) with
 | none=>rw[q] at h;cases h
 | some D=>
  rw[q] at h
  have h':(dp D (.pt n rs)).bind (fun d'=>cU d' (evs.drop (k + 1)))=some 0:=h
  rw[dp] at h'
  split at h'
  ·exact uq (D:=D + 1) h' (by omega)
  ·cases h'
mutual
noncomputable def yk:Rw→List Rw
 | .lt _ _=>[]
 | .cl k l u a n r=>[.cl k l u a n r]
 | .pt _ _ rows=>xl rows
noncomputable def xl:List Rw→List Rw
 | []=>[]
 | r :: rs=>yk r ++ xl rs
end
theorem df:∀(a b:List Rw),z9 (a ++ b)=z9 a ++ z9 b
 | [],b=>by rw[z9];rfl
 | x :: a,b=>by rw[List.cons_append,z9,z9,df a b,List.append_assoc]
mutual
theorem cF:∀r:Rw,z9 (yk r)=(qh r).filter ie
 | .lt _ _=>by rw[yk,qh,z9];rfl
 | .cl k l u a n r=>by
  obtain⟨e,he,_,h2⟩:=rp k l u a n r
  rw[yk,z9,z9,he,List.append_nil,List.filter_cons,if_pos h2]
  rfl
 | .pt n rs rows=>by
  rw[yk,qh,List.filter_cons,if_neg (by simp [ie]),List.filter_append,yv rows]
  simp [ie]
theorem yv:∀rows:List Rw,z9 (xl rows)=(z9 rows).filter ie
 | []=>by rw[xl,z9];rfl
 | r :: rs=>by rw[xl,z9,df,cF r,yv rs,List.filter_append]
end
noncomputable def wL:Rw→Bool
 | .pt _ _ _=>true
 | _=>false
theorem dI:∀(a b:List Rw),xm (a ++ b)=xm a ++ xm b
 | [],b=>by rw[xm];rfl
 | x :: a,b=>by rw[List.cons_append,xm,xm,dI a b,List.append_assoc]
theorem rm:∀(a b:List Rw),xl (a ++ b)=xl a ++ xl b
 | [],b=>by rw[xl];rfl
 | x :: a,b=>by rw[List.cons_append,xl,xl,rm a b,List.append_assoc]
theorem wG:∀rows:List Rw,xm (rows.filter wL)=xm rows
 | []=>rfl
 | .lt a b :: rs=>by rw[List.filter_cons,if_neg (by simp [wL]),wG rs,xm,je];rfl
 | .cl k l u a n r :: rs=>by rw[List.filter_cons,if_neg (by simp [wL]),wG rs,xm,je];rfl
 | .pt n r rows :: rs=>by rw[List.filter_cons,if_pos (by rfl),xm,xm,wG rs]
theorem vE:∀rows:List Rw,qS (rows.filter wL)=qS rows
 | []=>rfl
 | .lt a b :: rs=>by rw[List.filter_cons,if_neg (by simp [wL]),vE rs,qS,xx];omega
 | .cl k l u a n r :: rs=>by rw[List.filter_cons,if_neg (by simp [wL]),vE rs,qS,xx];omega
 | .pt n r rows :: rs=>by rw[List.filter_cons,if_pos (by rfl),qS,qS,vE rs]
theorem t6:∀{rows:List Rw} {M:Nat},M∈rows.map xx→(∀a∈rows.map xx,a≤M)→M=qS rows
 | [],M,h,_=>by cases h
 | r :: rs,M,h,hm=>by
  rw[qS]
  have h1:=hm (xx r) (by simp)
  by_cases hr:rs=[]
  ·subst hr
   simp at h
   rw[qS,h];omega
  ·have key:qS rs≤M∧(qS rs∈rs.map xx):=by
    clear h
    have:∀{rs:List Rw},rs≠[]→(qS rs∈rs.map xx):=by
     intro rs
     induction rs with
     | nil=>intro z;exact absurd rfl z
     | cons x xs ih=>
      intro _
      rw[qS]
      by_cases hx:xs=[]
      ·subst hx;rw[qS];simp
      ·have:=ih hx
       by_cases q:xx x≤qS xs
       ·rw[Nat.max_eq_right q];exact List.mem_cons_of_mem _ this
       ·rw[Nat.max_eq_left (by omega)];simp
    exact⟨hm _ (List.mem_cons_of_mem _ (this hr)),this hr⟩
   rw[List.map_cons] at h
   rcases List.mem_cons.mp h with h | h
   ·omega
   ·have:=t6 h fun a ha=>hm a (List.mem_cons_of_mem _ ha)
    omega
section
variable {P:Program} {w:World} {K:PySem.W.Frag} {mg:Str→Option Value} {base:Heap} {t:ja}
end
noncomputable def Jm (t:ja) (H:Hp):V→Bool
 | .ref a=>match H a with
  | some (.ins c _ _)=>decide (c=t.qa)
  | _=>false
 | _=>false
noncomputable def Jz (t:ja):Sp:=fun vs H Q _=>∃(ms:List Addr) (p:Addr) (nm:Str) (rs:List Str) (rows:List Rw),vs=[.ref p]∧qF t ms H (.pt nm rs rows) (.ref p)∧jB rows∧rows.length≤100∧∀l H' ys,qx H H'→H l=none→H' l=some (.lst ys)→qt t ms H' (rows.filter wL) ys→Q (.ref l) H'
theorem fL {xs ys:List V} (h:Paired (fun y v:V=>v=y) xs ys):ys=xs:=by
 induction h with
 | nil=>rfl
 | cons h _ ih=>rw[h,ih]
section
variable {P:Program} {w:World} {K:PySem.W.Frag} {mg:Str→Option Value} {base:Heap} {t:ja}
theorem eh {a b c:Addr} {K:PySem.W.Frag} (h1:PySem.W.kitOne K (.ref a) (rZ (.ref c))=some false) (h2:PySem.W.kitOne K (.ref b) (rZ (.ref c))=some true):a≠b:=fun z=>by
 rw[z,h2] at h1
 cases h1
theorem iZ (T:Txt K mg t) {k:Int} (hk:k=0∨k=1∨k=2∨k=3):PySem.W.kitOne K (.ref (vN t k)) (rZ (.ref t.qa))=some false:=by
 rcases hk with rfl | rfl | rfl | rfl
 ·exact T.pD
 ·exact T.bo
 ·exact T.mq
 ·exact T.bQ
theorem Qs (T:Txt K mg t) {k:Int} (hk:k=0∨k=1∨k=2∨k=3):PySem.W.kitOne K (.ref (vN t k)) (rZ (.ref t.jx))=some true:=by
 rcases hk with rfl | rfl | rfl | rfl
 ·exact T.gm
 ·exact T.y1
 ·exact T.bu
 ·exact T.y3
theorem iO (T:Txt K mg t) {ms:List Addr} {H:Hp} {r:Rw} {y:V} (h:qF t ms H r y) (hk:kq r):Jm t H y=wL r:=by
 cases r with
 | lt n v=>
  unfold qF at h
  obtain⟨p,rfl,_,dx,e⟩:=h
  unfold Jm
  dsimp only
  rw[e]
  exact decide_eq_false (eh T.wJ T.x6)
 | cl k l u a n r=>
  unfold qF at h
  obtain⟨p,rfl,_,dx,e⟩:=h
  rw[kq] at hk
  unfold Jm
  dsimp only
  rw[e]
  exact decide_eq_false (eh (iZ T hk) T.x6)
 | pt n rs rows=>
  unfold qF at h
  obtain⟨p,dx,a,b,ys,rfl,_,_,_,e,_⟩:=h
  unfold Jm
  dsimp only
  rw[e]
  exact decide_eq_true rfl
theorem cL (T:Txt K mg t) {ms:List Addr} {H H':Hp} (s:qx H H'):∀{rows:List Rw} {ys:List V},qt t ms H rows ys→jB rows→qt t ms H' (rows.filter wL) (ys.filter (Jm t H))
 | [],ys,h,_=>by unfold qt at h;subst h;unfold qt;rfl
 | r :: rs,ys,h,hk=>by
  unfold qt at h
  obtain⟨y,ys',rfl,h1,h2⟩:=h
  rw[jB] at hk
  have ih:=cL T s h2 hk.2
  have e:=iO T h1 hk.1
  rw[List.filter_cons,List.filter_cons,e]
  cases wL r with
  | false=>simpa using ih
  | true=>
   rw[if_pos rfl,if_pos rfl]
   unfold qt
   exact⟨y,_,rfl,h1.move (Fm.of s) fun _ z=>.inl z,ih⟩
theorem Jv (T:Txt K mg t) {ms:List Addr} {H:Hp} {r:Rw} {y:V} (h:qF t ms H r y) (hk:kq r):∃c,kx K H y (.ref c)∧PySem.W.kitOne K (.ref c) (rZ (.ref t.qa))=some (wL r):=by
 cases r with
 | lt n v=>
  unfold qF at h
  obtain⟨p,rfl,_,hA⟩:=h
  exact⟨_,VN T hA,T.wJ⟩
 | cl k l u a n r=>
  unfold qF at h
  obtain⟨p,rfl,_,hA⟩:=h
  rw[kq] at hk
  exact⟨_,Vb T hA,iZ T hk⟩
 | pt n rs rows=>
  unfold qF at h
  obtain⟨p,dx,a,b,ys,rfl,_,_,_,e,_⟩:=h
  exact⟨_,kx.ins e T.xY T.yN.1 T.fD T.cA T.yN.2,T.x6⟩
theorem fc:qX ["part"] ["part"] (z5 qI):=⟨rfl,rfl,rfl,by decide +kernel,rfl,by decide +kernel,by decide +kernel⟩
set_option maxHeartbeats 400000 in
theorem wW (T:Txt K mg t):qJ P w K mg base jO 1 t.xb t.xg ["part"] (Jz t):=by
 refine T.jY.fn.ok fc (fun vs H Q E h=>(by obtain⟨_,_,_,_,_,rfl,_⟩:=h;rfl)) (fun cdv A outer s H vs Q E hr h=>?_)
 obtain⟨ms,p,nm,rs,rows,rfl,hR,hk,hlen,kk⟩:=h
 refine⟨_,(z7 (qr (oJ (osc:=z5 qI) (N:=["part"]) (xs:=["row"]) (names:=[]) (qH:=[]) rfl rfl rfl ⟨rfl,by decide +kernel,by decide +kernel,by decide +kernel,by decide +kernel,rfl,by decide +kernel,by decide +kernel⟩ (ji (K:=K) rfl (qP (K:=K) rfl (pv 0) rfl)) (fun _ _ _=>(jn (i:=0) (show (["row"]:List Str).Nodup from by decide +kernel) rfl (.inl (rD rfl)) (.inr (rD rfl)))) (fun _ _ _=>(m7 (xV (qU (qL (K:=K) rfl) rfl T.qM PyProof.Rows.boot_isinstance (z0 (pv 0) (z0 (wY rfl T.wN (v:=.ref t.qa) rfl) z6)))))) (fun _ _ _=>(pv 0))))),?_⟩
 unfold qF at hR
 obtain⟨p',dx,a,b,ys,ep',hp,ha,hb,ep,ea,eb,hRs⟩:=hR
 cases ep'
 have hyl:=hRs.len
 walk_at "rd"
 refine⟨_,nj T ep,?_⟩
 refine⟨b,rfl,⟨_,qC.of eb⟩,?_⟩
 refine mP (xK (qC.of eb)) (Jm t H) (fun y v=>v=y) (qy (by omega)) ?_ ?_ ?_
 ·intro i y H' Q' hy s' k
  obtain⟨r,hr,y0⟩:=qt.gk hRs hy
  have hk1:=hk.gk hr
  obtain⟨c,tc,kc⟩:=Jv T (y0.move (Fm.of s') fun _ z=>.inl z) hk1
  rw[iO T y0 hk1] at k
  refine⟨_,rfl,_,_,_,_,rfl,.inr ⟨_,rfl⟩,tc,kc,_,rfl,?_⟩
  exact k _ (qx.refl _)
 ·intro i y H' Q' hy hp s' k
  exact⟨_,rfl,k _ _ (qx.refl _) rfl⟩
 intro D H' zs s' hD e' hz
 obtain rfl:=fL hz
 exact kk D H' _ s' hD e' (cL T s' hRs hk)
end
theorem uf (rows:List Rw):(xl rows).length≤(z9 rows).length:=by
 have h1:=kg (xl rows)
 have h2:=congrArg List.length (yv rows)
 have h3:=List.length_filter_le ie (z9 rows)
 omega
theorem Zz {r:Rw} {rs:List Rw} {i:Nat} (h:rs[i]?=some r):xl (rs.take (i + 1))=xl (rs.take i) ++ yk r:=by
 rw[take_snoc h,rm,xl,xl,List.append_nil]
theorem qt.app {t:ja} {ms:List Addr} {H:Hp} {bs:List Rw} {zs:List V} (h2:qt t ms H bs zs):∀{as:List Rw} {ys:List V},qt t ms H as ys→qt t ms H (as ++ bs) (ys ++ zs)
 | [],ys,h=>by unfold qt at h;subst h;exact h2
 | r :: rs,ys,h=>by
  unfold qt at h
  obtain⟨y,ys',rfl,h1,h3⟩:=h
  rw[List.cons_append,List.cons_append]
  unfold qt
  exact⟨y,_,rfl,h1,qt.app h2 h3⟩
theorem qt.one {t:ja} {ms:List Addr} {H:Hp} {r:Rw} {y:V} (h:qF t ms H r y):qt t ms H [r] [y]:=by
 unfold qt
 exact⟨y,[],rfl,h,by unfold qt;rfl⟩
noncomputable def oG (t:ja):Nat→Sp
 | 0=>fun _ _ _ _=>False
 | n + 1=>fun vs H Q _=>∃(ms:List Addr) (p:Addr) (nm:Str) (rs:List Str) (rows:List Rw),vs=[.ref p]∧qF t ms H (.pt nm rs rows) (.ref p)∧qS rows≤n∧jB rows∧(z9 rows).length≤100∧∀l H' ws,qx H H'→H l=none→H' l=some (.lst ws)→qt t ms H' (xl rows) ws→Q (.ref l) H'
section
variable {P:Program} {w:World} {K:PySem.W.Frag} {mg:Str→Option Value} {base:Heap} {t:ja}
theorem kf:qX ["part","found","row"] ["part"] (z5 jm):=⟨rfl,rfl,rfl,by decide +kernel,rfl,by decide +kernel,by decide +kernel⟩
set_option maxHeartbeats 400000 in
theorem fR (T:Txt K mg t):∀n:Nat,qJ P w K mg base jO (n + 1) t.jV t.jK ["part"] ((oG t) n):=by
 intro n
 induction n
 ·exact T.qT.fn.ok kf (fun vs H Q E h=>False.elim h) (fun cdv A outer s H vs Q E hr h=>False.elim h)
 rename_i n ih
 have G_v_clauses_of:qJ P w K mg base jO (n + 1) t.jV t.jK ["part"] ((oG t) n):=ih
 refine T.qT.fn.ok kf (fun vs H Q E h=>(by first | (obtain⟨rfl,_⟩:=h;rfl) | (obtain⟨_,rfl,_⟩:=h;rfl) | (obtain⟨_,_,rfl,_⟩:=h;rfl) | (obtain⟨_,_,_,rfl,_⟩:=h;rfl) | (obtain⟨_,_,_,_,rfl,_⟩:=h;rfl) | (obtain⟨_,_,_,_,_,rfl,_⟩:=h;rfl) | (obtain⟨_,_,_,_,_,_,rfl,_⟩:=h;rfl) | (obtain⟨_,_,_,_,_,_,_,rfl,_⟩:=h;rfl) | (obtain⟨_,_,_,_,_,_,_,_,rfl,_⟩:=h;rfl) | (obtain⟨_,_,_,_,_,_,_,_,_,rfl,_⟩:=h;rfl) | (obtain⟨_,_,_,_,_,_,_,_,_,_,rfl,_⟩:=h;rfl) | (obtain⟨_,_,_,_,_,_,_,_,_,_,_,rfl,_⟩:=h;rfl) | (obtain⟨_,_,_,_,_,_,_,_,_,_,_,_,rfl,_⟩:=h;rfl) | (obtain⟨_,_,_,_,_,_,_,_,_,_,_,_,_,rfl,_⟩:=h;rfl) | (obtain⟨_,_,_,_,_,_,_,_,_,_,_,_,_,_,rfl,_⟩:=h;rfl) | (obtain⟨_,_,_,_,_,_,_,_,_,_,_,_,_,_,_,rfl,_⟩:=h;rfl) | (obtain⟨_,_,_,_,_,_,_,_,_,_,_,_,_,_,_,_,rfl,_⟩:=h;rfl) | (obtain⟨_,_,_,_,_,_,_,_,_,_,_,_,_,_,_,_,_,rfl,_⟩:=h;rfl) | (obtain⟨_,_,_,_,_,_,_,_,_,_,_,_,_,_,_,_,_,_,rfl,_⟩:=h;rfl) | (obtain⟨_,_,_,_,_,_,_,_,_,_,_,_,_,_,_,_,_,_,_,rfl,_⟩:=h;rfl) | (obtain⟨_,_,_,_,_,_,_,_,_,_,_,_,_,_,_,_,_,_,_,_,rfl,_⟩:=h;rfl) | (obtain⟨_,_,_,_,_,_,_,_,_,_,_,_,_,_,_,_,_,_,_,_,_,rfl,_⟩:=h;rfl) | (obtain⟨_,_,_,_,_,_,_,_,_,_,_,_,_,_,_,_,_,_,_,_,_,_,rfl,_⟩:=h;rfl) | (obtain⟨_,_,_,_,_,_,_,_,_,_,_,_,_,_,_,_,_,_,_,_,_,_,_,rfl,_⟩:=h;rfl))) (fun cdv A outer s H vs Q E hr h=>?_)
 obtain⟨ms,p,nm,rs,rows,rfl,hR,hd,hk,hlen,kk⟩:=h
 refine⟨_,(z4 (ql (i:=1) kf.nd rfl (Or.inl rfl) (qD z6) vw)
   (z4 (kI PassesOwn.never rfl (ji (K:=K) rfl (qP (K:=K) rfl (pv 0) rfl)) (jn (i:=2) kf.nd rfl (Or.inl rfl))
    (z7 (PS.join (qN (xV (qU (qL (K:=K) rfl) rfl T.qM PyProof.Rows.boot_isinstance (z0 (pv 2) (z0 (wY rfl T.pL (v:=.ref t.jx) rfl) z6))))
    (z7 (jf (kZ PySem.F.plainAttrs_list PySem.F.slot_list_append PySem.F.type_list_append j4 (pv 1) (z0 (pv 2) z6)))) (z7 (PS.join (qN (xV (qU (qL (K:=K) rfl) rfl T.qM PyProof.Rows.boot_isinstance (z0 (pv 2) (z0 (wY rfl T.wN (v:=.ref t.qa) rfl) z6))))
    (z7 (jf (kZ PySem.F.plainAttrs_list PySem.F.slot_list_extend PySem.F.type_list_extend fM (pv 1) (z0 (qe G_v_clauses_of hr rfl T.qT.mg T.qT.fn.kp T.qT.bd .nil qW (z0 (pv 2) z6)) z6)))) qo)))))))
   (z7 (qr (pv 1))))),?_⟩
 unfold qF at hR
 obtain⟨p',dx,a,b,ys,ep',hp,ha,hb,ep,ea,eb,hRs⟩:=hR
 cases ep'
 walk_at "rd"
 intro l H1 s1 hl e1
 have ep1:=s1 _ _ ep
 have eb1:=s1 _ _ eb
 have hml:∀c∈l :: ms,c∈ms∨H c=none:=fun c h=>(List.mem_cons.mp h).elim (fun z=>.inr (by rw[z];exact hl)) .inl
 walk_at "rd"
 refine⟨_,nj T ep1,?_⟩
 refine⟨b,rfl,⟨_,qC.of eb1⟩,?_⟩
 refine yg (K:=K) (a:=b) (xs:=ys) (fun i σ H'=>(∃(ws:List V) (v2:Option V),σ=[some (.ref p),some (.ref l),v2]∧qx H H'∧H' l=some (.lst ws)∧qt t (l :: ms) H' (xl (rows.take i)) ws)∨False)
  ?_ ?_ ?_ ?_
 ·exact .inl ⟨[],none,rfl,s1,e1,by rw[List.take_zero,xl];unfold qt;rfl⟩
 ·intro i σ H' _ q
  obtain⟨_,_,_,z,_⟩:=q.resolve_right (fun z=>z)
  exact qC.of (z _ _ eb)
 ·intro i y σ H2 hi q
  obtain⟨ws,v2,rfl,s2,e2,hP⟩:=q.resolve_right (fun z=>z)
  clear q
  obtain⟨r,hr,y0⟩:=qt.gk hRs hi
  have hk1:=hk.gk hr
  have hd1:=gh hr
  have hcl:=Zz hr
  have hfl:=gf hr
  have hfn:=pG (rs:=rows) (i + 1)
  have hc1:=uf (rows.take i)
  have hRw2:qF t (l :: ms) H2 r y:=y0.move (Fm.of s2) hml
  have wl:=hP.len
  have nl:∀{c:Addr},c∉l :: ms→c≠l:=fun h z=>h (by rw[z];exact List.mem_cons_self)
  rw[hfl,List.length_append] at hfn
  refine⟨fun σ' H'=>(∃(ws:List V),σ'=[some (.ref p),some (.ref l),some y]∧qx H H'∧H' l=some (.lst ws)∧qt t (l :: ms) H' (xl (rows.take i) ++ yk r) ws)∨False,?_,?_⟩
  ·cases r with
   | lt n v=>
    unfold qF at hRw2
    obtain⟨p1,rfl,hp1,hA⟩:=hRw2
    have ty:=VN T hA
    refine⟨_,rfl,_,_,_,_,rfl,.inr ⟨_,rfl⟩,ty,T.ba,_,rfl,pP ?_⟩
    refine⟨_,?_,fun _ _ z=>z⟩
    refine⟨_,rfl,_,_,_,_,rfl,.inr ⟨_,rfl⟩,ty,T.wJ,_,rfl,pP ?_⟩
    exact .inl ⟨ws,rfl,s2,e2,by rw[yk,List.append_nil];exact hP⟩
   | cl k' l' u a' n' r'=>
    have hRx:=hRw2
    unfold qF at hRw2
    obtain⟨p1,rfl,hp1,hA⟩:=hRw2
    rw[kq] at hk1
    have hf1:1≤(qh (.cl k' l' u a' n' r')).length:=cT _
    have ty:kx K H2 (.ref p1) (.ref (vN t k')):=Vb T hA
    refine⟨_,rfl,_,_,_,_,rfl,.inr ⟨_,rfl⟩,ty,Qs T hk1,_,rfl,rP ?_⟩
    refine⟨_,rfl,.inl ⟨rfl,_,qC.of e2⟩,_,rfl,?_⟩
    refine⟨l,_,_,rfl,rfl,e2,qy (by omega),?_⟩
    intro H4 k4 e4
    have fm:Fm (l :: ms) H2 H4:=fun c o hc e=>k4.look e (nl hc)
    exact .inl ⟨_,rfl,k4.put s2 hl,e4,by rw[yk];exact qt.app (qt.one (hRx.move fm fun _ z=>.inl z)) (hP.move fm fun _ z=>.inl z)⟩
   | pt n' rs' rws=>
    have hRx:=hRw2
    unfold qF at hRw2
    obtain⟨p1,dx1,a1,b1,ys1,rfl,hp1,ha1,hb1,ep1,ea1,eb1',hR'⟩:=hRw2
    rw[xx] at hd1
    rw[kq] at hk1
    have hf1:(qh (.pt n' rs' rws)).length=(z9 rws).length + 2:=by rw[qh];simp
    have ty:kx K H2 (.ref p1) (.ref t.qa):=kx.ins ep1 T.xY T.yN.1 T.fD T.cA T.yN.2
    refine⟨_,rfl,_,_,_,_,rfl,.inr ⟨_,rfl⟩,ty,T.gu,_,rfl,pP ?_⟩
    refine⟨_,?_,fun _ _ z=>z⟩
    refine⟨_,rfl,_,_,_,_,rfl,.inr ⟨_,rfl⟩,ty,T.x6,_,rfl,rP ?_⟩
    refine⟨_,rfl,.inl ⟨rfl,_,qC.of e2⟩,_,rfl,?_⟩
    cases n with
    | zero=>omega
    | succ m=>
     refine⟨l :: ms,p1,n',rs',rws,rfl,hRx,by omega,hk1,by omega,fun l2 H7 ws2 s7 hl2 e7 hP7=>?_⟩
     have w2:=hP7.len
     have c2:=uf rws
     refine⟨l,l2,_,_,rfl,rfl,s7 _ _ e2,e7,qy (by omega),?_⟩
     intro H8 k8 e8
     have fm:Fm (l :: ms) H7 H8:=fun c o hc e=>k8.look e (nl hc)
     exact .inl ⟨_,rfl,k8.put (s2.trans s7) hl,e8,by rw[yk];exact qt.app (hP7.move fm fun _ z=>.inl z) ((hP.move (Fm.of s7) fun _ z=>.inl z).move fm fun _ z=>.inl z)⟩
  rintro σ' H6 (⟨ws',rfl,s6,e6,hP6⟩ | ⟨⟨⟩⟩)
  rw[←hcl] at hP6
  exact .inl ⟨_,_,rfl,s6,e6,hP6⟩
 ·intro σ H2 q
  obtain⟨ws,v2,rfl,s2,e2,hP⟩:=q.resolve_right (fun z=>z)
  rw[hRs.len,List.take_length] at hP
  walk_at "rd"
  exact kk l H2 ws s2 hl e2 (hP.move (Fm.of (qx.refl _)) fun _ z=>.inl (List.mem_cons_of_mem _ z))
theorem vX (T:Txt K mg t):qJ P w K mg base jO 8 t.jV t.jK ["part"] ((oG t) 7):=fR T 7
end
theorem bE:∀{rows:List Rw},jB rows→jB (rows.filter wL)
 | [],h=>h
 | r :: rs,h=>by
  rw[jB] at h
  have ih:=bE h.2
  rw[List.filter_cons]
  split
  ·rw[jB];exact⟨h.1,ih⟩
  ·exact ih
theorem wq:∀rows:List Rw,(z9 (rows.filter wL)).length≤(z9 rows).length
 | []=>Nat.le_refl _
 | r :: rs=>by
  have ih:=wq rs
  rw[List.filter_cons]
  split
  ·rw[z9,z9,List.length_append,List.length_append];omega
  ·rw[z9,List.length_append];omega
theorem tf (rows:List Rw):(xm rows).length≤(z9 rows).length:=by
 have h1:=congrArg List.length (ou rows)
 have h2:=List.length_filterMap_le uE (z9 rows)
 rw[List.length_map] at h1
 omega
theorem ZV {r:Rw} {rs:List Rw} {i:Nat} (h:rs[i]?=some r):xm (rs.take (i + 1))=xm (rs.take i) ++ je r:=by
 rw[take_snoc h,dI,xm,xm,List.append_nil]
theorem pB {r:Rw} (h:wL r=true):∃n rs rows,r=.pt n rs rows:=by
 cases r with
 | pt n rs rows=>exact⟨n,rs,rows,rfl⟩
 | _=>cases h
theorem cR {rows:List Rw} {i:Nat} {r:Rw} (h:(rows.filter wL)[i]?=some r):wL r=true:=(List.mem_filter.mp (List.mem_of_getElem? h)).2
theorem fb {t:ja} {ms:List Addr} {H:Hp} {n:Str} {rs:List Str} {rows:List Rw} {y:V} (h:qF t ms H (.pt n rs rows) y):∃q,y=.ref q:=by
 unfold qF at h
 obtain⟨q,_,_,_,_,e,_⟩:=h
 exact⟨q,e⟩
mutual
theorem bz:∀(r:Rw),∀x∈je r,wL x=true
 | .lt _ _,x,h=>by rw[je] at h;cases h
 | .cl _ _ _ _ _ _,x,h=>by rw[je] at h;cases h
 | .pt n rs rows,x,h=>by
  rw[je] at h
  (rcases List.mem_cons.mp h with rfl | h)
  ·rfl
  ·exact c9 rows x h
theorem c9:∀(rows:List Rw),∀x∈xm rows,wL x=true
 | [],x,h=>by rw[xm] at h;cases h
 | r :: rs,x,h=>by
  rw[xm] at h
  (rcases List.mem_append.mp h with h | h)
  ·exact bz r x h
  ·exact c9 rs x h
end
theorem pY {x:Str}:∀{L:List Rw} {i:Nat} {r:Rw},(∀y∈L.take i,gq y≠x)→L[i]?=some r→gq r=x→L.find? (fun r=>decide (gq r=x))=some r
 | [],i,r,_,h,_=>by cases h
 | a :: L,0,r,_,h,e=>by
  cases h
  simp [List.find?_cons,e]
 | a :: L,i + 1,r,hn,h,e=>by
  have h0:¬gq a=x:=hn a (by simp)
  have h1:(a :: L).find? (fun r=>decide (gq r=x))=L.find? (fun r=>decide (gq r=x)):=by simp [List.find?_cons,h0]
  rw[h1]
  exact pY (i:=i) (fun y hy=>hn y (by rw[List.take_succ_cons];exact List.mem_cons_of_mem _ hy)) h e
theorem nq {x:Str} {L:List Rw} (h:∀y∈L,gq y≠x):L.find? (fun r=>decide (gq r=x))=none:=List.find?_eq_none.mpr fun y hy=>by simpa using h y hy
noncomputable def tQ (t:ja):Nat→Sp
 | 0=>fun _ _ _ _=>False
 | n + 1=>fun vs H Q _=>∃(ms:List Addr) (p:Addr) (nm:Str) (rs:List Str) (rows:List Rw),vs=[.ref p]∧qF t ms H (.pt nm rs rows) (.ref p)∧qS rows≤n∧jB rows∧(z9 rows).length≤100∧∀l H' ws,qx H H'→H l=none→H' l=some (.lst ws)→qt t ms H' (je (.pt nm rs rows)) ws→Q (.ref l) H'
noncomputable def ZM (t:ja):Nat→Sp
 | 0=>fun _ _ _ _=>False
 | n + 1=>fun vs H Q _=>∃(ms:List Addr) (p:Addr) (nm:Str) (rs:List Str) (rows:List Rw),vs=[.ref p]∧qF t ms H (.pt nm rs rows) (.ref p)∧qS rows≤n∧jB rows∧(z9 rows).length≤100∧∀H',qx H H'→Q (.int ((qS rows:Nat):Int)) H'
noncomputable def Xc (t:ja):Sp:=fun vs H Q _=>∃(p:Addr) (ps as:List Str) (x9:List (Str × Str)) (nm:Str) (rs:List Str) (rows:List Rw) (x:Str),vs=[.ref p,.str x]∧bC t H p ps as x9 (.pt nm rs rows)∧qS rows≤6∧jB rows∧(z9 rows).length≤100∧((je (.pt nm rs rows)).find? (fun r=>decide (gq r=x))=none→∀H',qx H H'→Q .non H')∧∀q r H',qx H H'→(je (.pt nm rs rows)).find? (fun r=>decide (gq r=x))=some r→qF t [] H' r (.ref q)→Q (.ref q) H'
section
variable {P:Program} {w:World} {K:PySem.W.Frag} {mg:Str→Option Value} {base:Heap} {t:ja}
theorem vk:qX ["part","found","inner"] ["part"] (z5 jL):=⟨rfl,rfl,rfl,by decide +kernel,rfl,by decide +kernel,by decide +kernel⟩
set_option maxHeartbeats 400000 in
theorem dU (T:Txt K mg t):∀n:Nat,qJ P w K mg base jO (n + 1) t.jD t.jM ["part"] ((tQ t) n):=by
 intro n
 induction n
 ·exact T.qA.fn.ok vk (fun vs H Q E h=>False.elim h) (fun cdv A outer s H vs Q E hr h=>False.elim h)
 rename_i n ih
 have G_v_parts_of:qJ P w K mg base jO (n + 1) t.jD t.jM ["part"] ((tQ t) n):=ih
 have G_v_parts_within:qJ P w K mg base jO (n + 1) t.xb t.xg ["part"] (Jz t):=(wW T).mono (by omega)
 refine T.qA.fn.ok vk (fun vs H Q E h=>(by first | (obtain⟨rfl,_⟩:=h;rfl) | (obtain⟨_,rfl,_⟩:=h;rfl) | (obtain⟨_,_,rfl,_⟩:=h;rfl) | (obtain⟨_,_,_,rfl,_⟩:=h;rfl) | (obtain⟨_,_,_,_,rfl,_⟩:=h;rfl) | (obtain⟨_,_,_,_,_,rfl,_⟩:=h;rfl) | (obtain⟨_,_,_,_,_,_,rfl,_⟩:=h;rfl) | (obtain⟨_,_,_,_,_,_,_,rfl,_⟩:=h;rfl) | (obtain⟨_,_,_,_,_,_,_,_,rfl,_⟩:=h;rfl) | (obtain⟨_,_,_,_,_,_,_,_,_,rfl,_⟩:=h;rfl) | (obtain⟨_,_,_,_,_,_,_,_,_,_,rfl,_⟩:=h;rfl) | (obtain⟨_,_,_,_,_,_,_,_,_,_,_,rfl,_⟩:=h;rfl) | (obtain⟨_,_,_,_,_,_,_,_,_,_,_,_,rfl,_⟩:=h;rfl) | (obtain⟨_,_,_,_,_,_,_,_,_,_,_,_,_,rfl,_⟩:=h;rfl) | (obtain⟨_,_,_,_,_,_,_,_,_,_,_,_,_,_,rfl,_⟩:=h;rfl) | (obtain⟨_,_,_,_,_,_,_,_,_,_,_,_,_,_,_,rfl,_⟩:=h;rfl) | (obtain⟨_,_,_,_,_,_,_,_,_,_,_,_,_,_,_,_,rfl,_⟩:=h;rfl) | (obtain⟨_,_,_,_,_,_,_,_,_,_,_,_,_,_,_,_,_,rfl,_⟩:=h;rfl) | (obtain⟨_,_,_,_,_,_,_,_,_,_,_,_,_,_,_,_,_,_,rfl,_⟩:=h;rfl) | (obtain⟨_,_,_,_,_,_,_,_,_,_,_,_,_,_,_,_,_,_,_,rfl,_⟩:=h;rfl) | (obtain⟨_,_,_,_,_,_,_,_,_,_,_,_,_,_,_,_,_,_,_,_,rfl,_⟩:=h;rfl) | (obtain⟨_,_,_,_,_,_,_,_,_,_,_,_,_,_,_,_,_,_,_,_,_,rfl,_⟩:=h;rfl) | (obtain⟨_,_,_,_,_,_,_,_,_,_,_,_,_,_,_,_,_,_,_,_,_,_,rfl,_⟩:=h;rfl) | (obtain⟨_,_,_,_,_,_,_,_,_,_,_,_,_,_,_,_,_,_,_,_,_,_,_,rfl,_⟩:=h;rfl))) (fun cdv A outer s H vs Q E hr h=>?_)
 obtain⟨ms,p,nm,rs,rows,rfl,hR,hd,hk,hlen,kk⟩:=h
 refine⟨_,(z4 (ql (i:=1) vk.nd rfl (Or.inl rfl) (qD (z0 (pv 0) z6)) vw)
   (z4 (kI PassesOwn.never rfl (ji (K:=K) rfl (qe G_v_parts_within hr rfl T.jY.mg T.jY.fn.kp T.jY.bd .nil qW (z0 (pv 0) z6))) (jn (i:=2) vk.nd rfl (Or.inl rfl))
    (z7 (jf (kZ PySem.F.plainAttrs_list PySem.F.slot_list_extend PySem.F.type_list_extend fM (pv 1) (z0 (qe G_v_parts_of hr rfl T.qA.mg T.qA.fn.kp T.qA.bd .nil qW (z0 (pv 2) z6)) z6)))))
   (z7 (qr (pv 1))))),?_⟩
 have hrl:=kg rows
 walk_at "rd"
 intro l H1 s1 hl e1
 have hml:∀c∈l :: ms,c∈ms∨H c=none:=fun c h=>(List.mem_cons.mp h).elim (fun z=>.inr (by rw[z];exact hl)) .inl
 have nl:∀{c:Addr},c∉l :: ms→c≠l:=fun h z=>h (by rw[z];exact List.mem_cons_self)
 have hR1:qF t (l :: ms) H1 (.pt nm rs rows) (.ref p):=hR.move (Fm.of s1) hml
 walk_at "rd"
 refine⟨l :: ms,p,nm,rs,rows,rfl,hR1,hk,by omega,fun l1 H2 ys s2 hl1 e2 hI=>?_⟩
 refine⟨l1,rfl,⟨_,qC.of e2⟩,?_⟩
 have nll:l1≠l:=fun z=>by rw[z,e1] at hl1;cases hl1
 have sA:qx H H2:=s1.trans s2
 have hR2:qF t (l :: ms) H2 (.pt nm rs rows) (.ref p):=hR1.move (Fm.of s2) fun _ z=>.inl z
 have hki:=bE hk
 have hdi:=vE rows
 have hfi:=wq rows
 have hpt:=wG rows
 have hall:=@cR rows
 generalize rows.filter wL=inn at *
 refine dc (K:=K) (a:=l1) (xs:=ys) (fun i σ H'=>∃(v2:Option V) (ws:List V),σ=[some (.ref p),some (.ref l),v2]∧Off l H2 H'∧H' l=some (.lst ws)∧qt t (l :: ms) H' (.pt nm rs rows :: xm (inn.take i)) ws)
  ⟨none,_,rfl,fun b o _ e=>e,s2 _ _ e1,by rw[List.take_zero,xm];exact qt.one hR2⟩ (fun i σ H' _ ⟨_,_,_,q,_⟩=>qC.of (q _ _ nll e2)) ?_ ?_
 ·rintro i y σ H3 hi ⟨v2,ws,rfl,o3,e3,hP⟩
  obtain⟨r,hr,y0⟩:=qt.gk hI hi
  have fm3:Fm (l :: ms) H2 H3:=fun c o hc e=>o3 c o (nl hc) e
  have hRw3:qF t (l :: ms) H3 r y:=y0.move fm3 fun _ z=>.inl z
  obtain⟨n',rs',rws,rfl⟩:=pB (hall hr)
  obtain⟨q,rfl⟩:=fb hRw3
  have hk1:=hki.gk hr
  rw[kq] at hk1
  have hd1:=gh hr
  rw[xx] at hd1
  have hfl:=gf hr
  have hfn:=pG (rs:=inn) (i + 1)
  rw[hfl,List.length_append] at hfn
  have hf1:(qh (.pt n' rs' rws)).length=(z9 rws).length + 2:=by rw[qh];simp
  have wl:=hP.len
  rw[List.length_cons] at wl
  have c1:=tf (inn.take i)
  have hpn:=ZV hr
  cases n with
  | zero=>omega
  | succ m=>
   refine⟨_,rfl,.inl ⟨rfl,_,qC.of e3⟩,_,rfl,?_⟩
   refine⟨l :: ms,q,n',rs',rws,rfl,hRw3,by omega,hk1,by omega,fun l2 H7 ws2 s7 hl2 e7 hP7=>?_⟩
   have w2:=hP7.len
   have c2:=tf rws
   rw[je,List.length_cons] at w2
   refine⟨l,l2,_,_,rfl,rfl,s7 _ _ e3,e7,qy (by omega),?_⟩
   intro H8 k8 e8
   have fm:Fm (l :: ms) H7 H8:=fun c o hc e=>k8.look e (nl hc)
   refine⟨_,_,rfl,fun b o hb e=>k8.look (s7 _ _ (o3 b o hb e)) hb,e8,?_⟩
   rw[hpn,←List.cons_append]
   exact qt.app (hP7.move fm fun _ z=>.inl z) ((hP.move (Fm.of s7) fun _ z=>.inl z).move fm fun _ z=>.inl z)
 ·rintro σ H3 ⟨v2,ws,rfl,o3,e3,hP⟩
  rw[hI.len,List.take_length,hpt] at hP
  walk_at "rd"
  refine kk l H3 ws (fun b o e=>o3 b o (qb e hl) (sA b o e)) hl e3 ?_
  rw[je]
  exact hP.move (Fm.of (qx.refl _)) fun _ z=>.inl (List.mem_cons_of_mem _ z)
theorem vq (T:Txt K mg t):qJ P w K mg base jO 8 t.jD t.jM ["part"] ((tQ t) 7):=dU T 7
theorem bM:qX ["part"] ["part"] (z5 jX):=⟨rfl,rfl,rfl,by decide +kernel,rfl,by decide +kernel,by decide +kernel⟩
set_option maxHeartbeats 400000 in
theorem dD (T:Txt K mg t):∀n:Nat,qJ P w K mg base jO (n + 1) t.x5 t.xA ["part"] ((ZM t) n):=by
 intro n
 induction n
 ·exact T.xJ.fn.ok bM (fun vs H Q E h=>False.elim h) (fun cdv A outer s H vs Q E hr h=>False.elim h)
 rename_i n ih
 have G_v_depth_of:qJ P w K mg base jO (n + 1) t.x5 t.xA ["part"] ((ZM t) n):=ih
 have G_v_parts_within:qJ P w K mg base jO (n + 1) t.xb t.xg ["part"] (Jz t):=(wW T).mono (by omega)
 refine T.xJ.fn.ok bM (fun vs H Q E h=>(by first | (obtain⟨rfl,_⟩:=h;rfl) | (obtain⟨_,rfl,_⟩:=h;rfl) | (obtain⟨_,_,rfl,_⟩:=h;rfl) | (obtain⟨_,_,_,rfl,_⟩:=h;rfl) | (obtain⟨_,_,_,_,rfl,_⟩:=h;rfl) | (obtain⟨_,_,_,_,_,rfl,_⟩:=h;rfl) | (obtain⟨_,_,_,_,_,_,rfl,_⟩:=h;rfl) | (obtain⟨_,_,_,_,_,_,_,rfl,_⟩:=h;rfl) | (obtain⟨_,_,_,_,_,_,_,_,rfl,_⟩:=h;rfl) | (obtain⟨_,_,_,_,_,_,_,_,_,rfl,_⟩:=h;rfl) | (obtain⟨_,_,_,_,_,_,_,_,_,_,rfl,_⟩:=h;rfl) | (obtain⟨_,_,_,_,_,_,_,_,_,_,_,rfl,_⟩:=h;rfl) | (obtain⟨_,_,_,_,_,_,_,_,_,_,_,_,rfl,_⟩:=h;rfl) | (obtain⟨_,_,_,_,_,_,_,_,_,_,_,_,_,rfl,_⟩:=h;rfl) | (obtain⟨_,_,_,_,_,_,_,_,_,_,_,_,_,_,rfl,_⟩:=h;rfl) | (obtain⟨_,_,_,_,_,_,_,_,_,_,_,_,_,_,_,rfl,_⟩:=h;rfl) | (obtain⟨_,_,_,_,_,_,_,_,_,_,_,_,_,_,_,_,rfl,_⟩:=h;rfl) | (obtain⟨_,_,_,_,_,_,_,_,_,_,_,_,_,_,_,_,_,rfl,_⟩:=h;rfl) | (obtain⟨_,_,_,_,_,_,_,_,_,_,_,_,_,_,_,_,_,_,rfl,_⟩:=h;rfl) | (obtain⟨_,_,_,_,_,_,_,_,_,_,_,_,_,_,_,_,_,_,_,rfl,_⟩:=h;rfl) | (obtain⟨_,_,_,_,_,_,_,_,_,_,_,_,_,_,_,_,_,_,_,_,rfl,_⟩:=h;rfl) | (obtain⟨_,_,_,_,_,_,_,_,_,_,_,_,_,_,_,_,_,_,_,_,_,rfl,_⟩:=h;rfl) | (obtain⟨_,_,_,_,_,_,_,_,_,_,_,_,_,_,_,_,_,_,_,_,_,_,rfl,_⟩:=h;rfl) | (obtain⟨_,_,_,_,_,_,_,_,_,_,_,_,_,_,_,_,_,_,_,_,_,_,_,rfl,_⟩:=h;rfl))) (fun cdv A outer s H vs Q E hr h=>?_)
 obtain⟨ms,p,nm,rs,rows,rfl,hR,hd,hk,hlen,kk⟩:=h
 refine⟨_,(z7 (qr (ZJ (K:=K) rfl rfl rfl T.tL (yc (osc:=z5 jX) (N:=["part"]) (names:=[]) (qH:=[]) rfl rfl rfl ⟨rfl,by decide +kernel,by decide +kernel,by decide +kernel,rfl,rfl,by decide +kernel,by decide +kernel⟩ (ji (K:=K) rfl (qe G_v_parts_within hr rfl T.jY.mg T.jY.fn.kp T.jY.bd .nil qW (z0 (pv 0) z6))) (fun _ _ _=>(qk xf (qe G_v_depth_of hr rfl T.xJ.mg T.xJ.fn.kp T.xJ.bd .nil qW (z0 (pv 0) z6)) z3))) z3))),?_⟩
 have hrl:=kg rows
 walk_at "rd"
 refine⟨ms,p,nm,rs,rows,rfl,hR,hk,by omega,fun l1 H2 ys s2 hl1 e2 hI=>?_⟩
 refine⟨l1,rfl,⟨_,qC.of e2⟩,?_⟩
 have hki:=bE hk
 have hdi:=vE rows
 have hfi:=wq rows
 have hall:=@cR rows
 have hil:=kg (rows.filter wL)
 generalize rows.filter wL=inn at *
 have hyl:=hI.len
 refine vO (xK (qC.of e2)) (fun i _ v=>∀r,inn[i]?=some r→v=.int ((xx r:Nat):Int)) (qy (by omega)) ?_ ?_
 ·intro i y H' Q' hy s' k
  obtain⟨r,hr,y0⟩:=qt.gk hI hy
  have hRw3:qF t ms H' r y:=y0.move (Fm.of s') fun _ z=>.inl z
  obtain⟨n',rs',rws,rfl⟩:=pB (hall hr)
  obtain⟨q,rfl⟩:=fb hRw3
  have hk1:=hki.gk hr
  rw[kq] at hk1
  have hd1:=gh hr
  rw[xx] at hd1
  have hfl:=gf hr
  have hfn:=pG (rs:=inn) (i + 1)
  rw[hfl,List.length_append] at hfn
  have hf1:(qh (.pt n' rs' rws)).length=(z9 rws).length + 2:=by rw[qh];simp
  have hr0:=hr
  cases n with
  | zero=>omega
  | succ m=>
   refine⟨_,rfl,ms,q,n',rs',rws,rfl,hRw3,by omega,hk1,by omega,fun H4 s4=>?_⟩
   walk_at "rd"
   refine k _ _ s4 fun r' hr'=>?_
   rw[hr0] at hr'
   cases hr'
   rw[xx]
   rfl
 intro D H' vs s' hD e' hvl hp
 have hvs:vs=(inn.map fun r=>((xx r:Nat):Int)).map V.int:=by
  apply List.ext_getElem?
  intro i
  rw[List.map_map,List.getElem?_map]
  by_cases hi:i < inn.length
  ·have hi':i < vs.length:=by omega
   have hiy:i < ys.length:=by omega
   rw[List.getElem?_eq_getElem hi',List.getElem?_eq_getElem hi]
   exact congrArg some (hp i _ _ (List.getElem?_eq_getElem hiy) (List.getElem?_eq_getElem hi') _ (List.getElem?_eq_getElem hi))
  ·rw[List.getElem?_eq_none_iff.mpr (by omega),List.getElem?_eq_none_iff.mpr (by omega)]
   rfl
 rw[hvs] at e'
 have sE:qx H H':=s2.trans s'
 refine⟨D,_,rfl,qC.of e',fun h0=>?_,fun M hM hm=>?_⟩
 ·have hin:inn=[]:=List.map_eq_nil_iff.mp h0
  have h00:qS rows=0:=by rw[←hdi,hin,qS]
  have:=kk H' sE
  rw[h00] at this
  exact this
 ·obtain⟨r,hr,rfl⟩:=List.mem_map.mp hM
  have h1:xx r=qS inn:=t6 (List.mem_map_of_mem hr) fun a ha=>by
   obtain⟨r',hr',rfl⟩:=List.mem_map.mp ha
   have:=hm _ (List.mem_map_of_mem (f:=fun r=>((xx r:Nat):Int)) hr')
   omega
  rw[h1,hdi]
  exact kk H' sE
theorem cm (T:Txt K mg t):qJ P w K mg base jO 8 t.x5 t.xA ["part"] ((ZM t) 7):=dD T 7
theorem gj:qX ["pact","name","part"] ["pact","name"] (z5 jd):=⟨rfl,rfl,rfl,by decide +kernel,rfl,by decide +kernel,by decide +kernel⟩
set_option maxHeartbeats 400000 in
theorem mV (T:Txt K mg t):qJ P w K mg base jO 9 t.kX t.kQ ["pact","name"] (Xc t):=by
 have G_v_parts_of:qJ P w K mg base jO 8 t.jD t.jM ["part"] ((tQ t) 7):=(vq T).mono (by decide)
 refine T.jl.fn.ok gj (fun vs H Q E h=>(by obtain⟨_,_,_,_,_,_,_,_,rfl,_⟩:=h;rfl)) (fun cdv A outer s H vs Q E hr h=>?_)
 obtain⟨p,ps,as,x9,nm,rs,rows,x,rfl,hA,hd,hk,hlen,kN,kS⟩:=h
 refine⟨_,(z4 (kI PassesOwn.never rfl (ji (K:=K) rfl (qe G_v_parts_of hr rfl T.qA.mg T.qA.fn.kp T.qA.bd .nil qW (z0 (qP (K:=K) rfl (pv 0) rfl) z6))) (jn (i:=2) gj.nd rfl (Or.inl rfl))
    (z7 (qN (qu jo (qP (K:=K) rfl (pv 2) rfl) (pv 1) (qi _))
    (z7 (qr (pv 2))) qo)))
   (z7 (qr uG))),?_⟩
 obtain⟨dx,a,b,c,y,vs,ep,ea,eb,ec,hRm,y0⟩:=hA
 obtain⟨q,rfl⟩:=fb y0
 walk_at "rd"
 refine⟨_,JC T ep,?_⟩
 refine⟨[],q,nm,rs,rows,rfl,y0,hd,hk,hlen,fun l H1 ws s1 hl e1 hP=>?_⟩
 have hip:=bz (.pt nm rs rows)
 generalize je (.pt nm rs rows)=prt at *
 refine⟨l,rfl,⟨_,qC.of e1⟩,?_⟩
 refine yg (K:=K) (a:=l) (xs:=ws) (fun i σ H'=>(∃(v2:Option V),σ=[some (.ref p),some (.str x),v2]∧qx H1 H'∧∀r∈prt.take i,gq r≠x)∨False) ?_ ?_ ?_ ?_
 ·exact .inl ⟨none,rfl,qx.refl _,fun r hr=>by rw[List.take_zero] at hr;cases hr⟩
 ·intro i σ H' _ q
  obtain⟨_,_,z,_⟩:=q.resolve_right (fun z=>z)
  exact qC.of (z _ _ e1)
 ·intro i y σ H2 hi q
  obtain⟨v2,rfl,s2,hn⟩:=q.resolve_right (fun z=>z)
  clear q
  obtain⟨r,hr,hRw0⟩:=qt.gk hP hi
  obtain⟨n',rs',rws,rfl⟩:=pB (hip r (List.mem_of_getElem? hr))
  have hRw2:qF t [] H2 (.pt n' rs' rws) y:=hRw0.move (Fm.of s2) fun _ z=>.inl z
  have hRx:=hRw2
  unfold qF at hRw2
  obtain⟨q1,dx1,a1,b1,ys1,rfl,_,_,_,ep1,_⟩:=hRw2
  refine⟨_,rfl,_,rY T ep1,?_⟩
  walk_at "rd"
  refine kD (fun h1=>?_) (fun h1=>?_)
  ·have e:n'=x:=V.str.inj (of_decide_eq_true h1)
   walk_at "rd"
   exact kS q1 _ H2 (s1.trans s2) (pY hn hr e) hRx
  ·have e:n'≠x:=fun z=>h1 (decide_eq_true (by rw[z]))
   refine .inl ⟨_,rfl,s2,fun r' hr'=>?_⟩
   rw[take_snoc hr] at hr'
   rcases List.mem_append.mp hr' with hr' | hr'
   ·exact hn r' hr'
   ·rw[List.mem_singleton.mp hr'];exact e
 ·intro σ H2 q
  obtain⟨v2,rfl,s2,hn⟩:=q.resolve_right (fun z=>z)
  rw[hP.len,List.take_length] at hn
  walk_at "rd"
  exact kN (nq hn) H2 (s1.trans s2)
end
theorem sQ {lo:Int} {n:Nat} {E:L2.St→Hp→Prop} {B:V→L2.St→Hp→(L2.St→Hp→Prop)→Prop} {σ:L2.St} {H:Hp} (Pv:Nat→L2.St→Hp→Prop) (h0:Pv 0 σ H)
  (hs:∀i σ H,i < n→Pv i σ H→B (.int (lo + i)) σ H (Pv (i + 1))) (hd:∀σ H,Pv n σ H→E σ H) :
  ∃W:Nat→Nat→L2.St→Hp→Prop,(∃m,W 0 m σ H)∧∀i m σ H,W i m σ H→
   ((iy lo n).stop i H∧E σ H)∨((iy lo n).go i H∧∃N:L2.St→Hp→Prop,(∀σ' H',N σ' H'→∃m',m' < m∧W (i + 1) m' σ' H')∧∀x H',(iy lo n).aD i H x H'→B x σ H' N):=by
 refine⟨fun i m σ H=>m=n - i∧i≤n∧Pv i σ H,⟨n,by simp,Nat.zero_le _,h0⟩,?_⟩
 rintro i m σ H ⟨rfl,hi,p⟩
 by_cases hlt:i < n
 ·refine .inr ⟨hlt,Pv (i + 1),fun σ' H' p'=>⟨n - (i + 1),by omega,rfl,hlt,p'⟩,fun x H' y=>?_⟩
  obtain⟨e,y⟩:=y
  subst e
  subst y
  exact hs i σ _ hlt p
 ·have e:i=n:=by omega
  subst e
  exact .inl ⟨Nat.le_refl _,hd σ H p⟩
noncomputable def pd (H:Hp) (v:V) (s:cx):Prop:=∃p,v=.ref p∧H p=some (.tup [.str s.1,.int (s.2.1:Int),.int (s.2.2.1:Int),.int (s.2.2.2:Int)])
theorem pd.same {H H':Hp} {v:V} {s:cx} (h:pd H v s) (q:qx H H'):pd H' v s:=by
 obtain⟨p,e,z⟩:=h
 exact⟨p,e,q _ _ z⟩
theorem pd.keeps {H H':Hp} {v:V} {s:cx} {l:Addr} {xs:List V} (h:pd H v s) (k:Keeps l H H') (el:H l=some (.lst xs)):pd H' v s:=by
 obtain⟨p,e,z⟩:=h
 exact⟨p,e,k.look z (xU z el (by intro z;cases z))⟩
noncomputable def xT (evs:List Ew) (k:Nat):List cx:=(List.range k).filterMap (xW evs)
theorem gM (evs:List Ew) (k:Nat):xT evs (k + 1)=xT evs k ++ (xW evs k).toList:=by
 unfold xT
 rw[List.range_succ,List.filterMap_append,List.filterMap_cons]
 cases xW evs k<;>rfl
theorem oB (evs:List Ew) (k:Nat):(xT evs k).length≤k:=by
 have:=List.length_filterMap_le (xW evs) (List.range k)
 rw[List.length_range] at this
 exact this
theorem nT (m:Nat) (a b:List cx):kC m (a ++ b)=kC (kC m a) b:=by unfold kC;rw[List.foldl_append]
theorem wX {e:Ew} (h:V.str (kw e)=V.str (Str.ofString "part")):∃n rs,e=.pt n rs:=by
 have k1:∀x∈(["let","must","may","ban","power","done"]:List Str),¬x = "part":=by decide +kernel
 have h':=V.str.inj h
 cases e with
 | pt n rs=>exact⟨n,rs,rfl⟩
 | lt a b=>exact absurd h' (k1 _ (by simp [kw]))
 | mu l w a n r=>exact absurd h' (k1 _ (by simp [kw]))
 | my l w a=>exact absurd h' (k1 _ (by simp [kw]))
 | bn l w a r=>exact absurd h' (k1 _ (by simp [kw]))
 | pw l w a r=>exact absurd h' (k1 _ (by simp [kw]))
 | dn=>exact absurd h' (k1 _ (by simp [kw]))
theorem Zd {d:Nat} (hd:0 < d) (e:Ew):(d:Int) + (if decide (V.str (kw e)=V.str (Str.ofString "part"))=true then (1:Int) else 0) - (if decide (V.str (kw e)=V.str (Str.ofString "done"))=true then (1:Int) else 0)=(vV d e:Nat):=by
 have k1:∀x∈(["let","must","may","ban","power"]:List Str),¬x = "part"∧¬x = "done":=by decide +kernel
 have k2:¬("part" : Str) = "done":=by decide +kernel
 have none:∀{x:Str},x∈(["let","must","may","ban","power"]:List Str)→(d:Int) + (if decide (V.str x=V.str (Str.ofString "part"))=true then (1:Int) else 0) - (if decide (V.str x=V.str (Str.ofString "done"))=true then (1:Int) else 0)=d:=fun {x} hx=>by
  have h1:¬V.str x=V.str (Str.ofString "part"):=fun z=>(k1 x hx).1 (V.str.inj z)
  have h2:¬V.str x=V.str (Str.ofString "done"):=fun z=>(k1 x hx).2 (V.str.inj z)
  rw[decide_eq_false h1,decide_eq_false h2];simp
 cases e with
 | pt n rs=>
  have h2:¬V.str (kw (.pt n rs))=V.str (Str.ofString "done"):=fun z=>k2 (V.str.inj z)
  rw[decide_eq_false h2,decide_eq_true (show V.str (kw (.pt n rs))=V.str (Str.ofString "part") from rfl)]
  simp [vV]
 | dn=>
  have h2:¬V.str (kw .dn)=V.str (Str.ofString "part"):=fun z=>k2 (V.str.inj z).symm
  rw[decide_eq_false h2,decide_eq_true (show V.str (kw .dn)=V.str (Str.ofString "done") from rfl)]
  simp [vV];omega
 | lt a b=>exact none (by simp [kw])
 | mu l w a n r=>exact none (by simp [kw])
 | my l w a=>exact none (by simp [kw])
 | bn l w a r=>exact none (by simp [kw])
 | pw l w a r=>exact none (by simp [kw])
theorem Zv {evs:List Ew} {a:Nat} {e:Ew} (h:evs[a]?=some e):evs.drop a=e :: evs.drop (a + 1):=by
 have hlt:=(List.getElem?_eq_some_iff.mp h).1
 have h2:=(List.getElem?_eq_some_iff.mp h).2
 rw[←h2,List.getElem_cons_drop]
noncomputable def nG:Sp:=fun vs H Q _=>∃(le:Addr) (ws:List V) (evs:List Ew),vs=[.ref le]∧H le=some (.lst ws)∧Paired (wm H) ws evs∧cU 0 evs=some 0∧evs.length≤66∧∀l H' us,qx H H'→H l=none→H' l=some (.lst us)→Paired (pd H') us (("whole",0,evs.length,kC 0 (xT evs evs.length)) :: xT evs evs.length)→Q (.ref l) H'
section
variable {P:Program} {w:World} {K:PySem.W.Frag} {mg:Str→Option Value} {base:Heap} {t:ja}
theorem xw:qX ["_law_events_here","_law_spans_here","_law_k","_law_depth","_law_deepest","_law_at","_law_word"] ["_law_events_here"] (z5 kz):=⟨rfl,rfl,rfl,by decide +kernel,rfl,by decide +kernel,by decide +kernel⟩
set_option maxHeartbeats 400000 in
theorem tj (T:Txt K mg t):qJ P w K mg base jO 1 t.g8 t.gA ["_law_events_here"] nG:=by
 refine T.fi.fn.ok xw (fun vs H Q E h=>(by obtain⟨_,_,_,rfl,_⟩:=h;rfl)) (fun cdv A outer s H vs Q E hr h=>?_)
 obtain⟨le,ws,evs,rfl,hL,hP,hdp,hel,kk⟩:=h
 refine⟨_,(z4 (ql (i:=1) xw.nd rfl (Or.inl rfl) (qD (z0 (xk (z0 z8 (z0 z3 (z0 (qU (xI (K:=K) rfl) rfl T.bh PySem.boot_len (z0 (pv 0) z6)) (z0 z3 z6))))) z6)) vw)
   (z4 (kI PassesOwn.never rfl (kO rfl T.we (z0 (qU (xI (K:=K) rfl) rfl T.bh PySem.boot_len (z0 (pv 0) z6)) z6)) (jn (i:=2) xw.nd rfl (Or.inl rfl))
    (z7 (PS.join (qN (qu jo (qv (qz (K:=K) rfl) (qv (qQ (K:=K) rfl) (pv 0) (pv 2) (fun _ _=>rfl)) z3 (fun _ _=>rfl)) z8 (qi _))
    (z4 (ql (i:=3) xw.nd rfl (Or.inl rfl) z3)
   (z4 (ql (i:=4) xw.nd rfl (Or.inl rfl) z3)
   (z4 (ql (i:=5) xw.nd rfl (Or.inl rfl) (qk xf (pv 2) z3))
   (z4 (eP PassesOwn.never (qu eZ (pv 3) z3 (qi _))
    (z4 (ql (i:=6) xw.nd rfl (Or.inl rfl) (qv (qz (K:=K) rfl) (qv (qQ (K:=K) rfl) (pv 0) (pv 5) (fun _ _=>rfl)) z3 (fun _ _=>rfl)))
   (z4 (ql (i:=3) xw.nd rfl (Or.inl rfl) (qk b9 (qk xf (pv 3) (jH vD rfl T.pQ PyProof.Rows.boot_int (z0 (vB jo (pv 6) z8 (qi _)) z6))) (jH vD rfl T.pQ PyProof.Rows.boot_int (z0 (vB jo (pv 6) z8 (qi _)) z6))))
   (z4 (ql (i:=4) xw.nd rfl (Or.inl rfl) (qU (cB rfl) rfl T.tL PyProof.Rows.boot_max (z0 (pv 4) (z0 (pv 3) z6))))
   (z7 (ql (i:=5) xw.nd rfl (Or.inl rfl) (qk xf (pv 5) z3)))))))
   (z4 (jf (kZ PySem.F.plainAttrs_list PySem.F.slot_list_append PySem.F.type_list_append j4 (pv 1) (z0 (xk (z0 (qv (qz (K:=K) rfl) (qv (qQ (K:=K) rfl) (pv 0) (pv 2) (fun _ _=>rfl)) z3 (fun _ _=>rfl)) (z0 (pv 2) (z0 (pv 5) (z0 (qk b9 (pv 4) z3) z6))))) z6)))
   (z7 (eY (xk (z0 z8 (z0 z3 (z0 (qU (xI (K:=K) rfl) rfl T.bh PySem.boot_len (z0 (pv 0) z6)) (z0 (qU (cB rfl) rfl T.tL PyProof.Rows.boot_max (z0 (qv (qz (K:=K) rfl) (qv (qQ (K:=K) rfl) (pv 1) z3 (fun _ _=>rfl)) z3 (fun _ _=>rfl)) (z0 (pv 4) z6))) z6))))) (Q2 (pv 1) z3 oo)))))))) qo))))
   (z7 (qr (pv 1))))),?_⟩
 have hwl:ws.length=evs.length:=Paired.length hP
 walk_at "rd"
 refine⟨le,_,rfl,.inl (qC.of hL),?_⟩
 rw[hwl]
 walk_at "rd"
 intro t0 H1 s1 ht0 e1
 walk_at "rd"
 intro l H2 s2 hl e2
 have sA:qx H H2:=s1.trans s2
 have hlH:H l=none:=s1.free hl
 have eL2:=sA _ _ hL
 walk_at "rd"
 refine⟨le,_,rfl,.inl (qC.of eL2),?_⟩
 rw[hwl]
 refine⟨_,rfl,by omega,by omega,?_⟩
 have emt:((evs.length:Int)).toNat=evs.length:=Int.toNat_natCast _
 rw[emt]
 refine sQ (lo:=0) (n:=evs.length) (fun i σ H'=>(∃(us:List V) (v2 v3 v4 v5 v6:Option V),σ=[some (.ref le),some (.ref l),v2,v3,v4,v5,v6]∧qx H H'∧H' l=some (.lst us)∧Paired (pd H') us (("whole",0,evs.length,kC 0 (xT evs i)) :: xT evs i))∨False) ?_ ?_ ?_
 ·exact .inl ⟨_,none,none,none,none,none,rfl,sA,e2,.cons ⟨t0,rfl,s2 _ _ e1⟩ .nil⟩
 ·intro i σ H3 hi q
  obtain⟨us,v2,v3,v4,v5,v6,rfl,s3,e3,hU⟩:=q.resolve_right (fun z=>z)
  clear q
  have hat:∀j,j < evs.length→∃e p xs,evs[j]?=some e∧wm H3 (.ref p) e∧f7 ws (j:Int)=some (.ref p)∧H3 p=some (.tup xs)∧f7 xs 0=some (.str (kw e)):=fun j hj=>by
   have hjw:j < ws.length:=by omega
   obtain⟨e,hei,hE0⟩:=Paired.gk hP (List.getElem?_eq_getElem hjw)
   have hE:=hE0.same s3
   obtain⟨p,xs,hwp,ep,ex⟩:=hE.first
   rw[hwp] at hE
   exact⟨e,p,xs,hei,hE,gN (by rw[List.getElem?_eq_getElem hjw,hwp]),ep,ex⟩
  obtain⟨e,p,xs,hei,hE,hix,ep,ex⟩:=hat i hi
  have hix0:f7 ws (0 + (i:Int))=some (.ref p):=by rw[Int.zero_add];exact hix
  have eL3:=s3 _ _ hL
  have hul:us.length≤70:=by
   have h1:=Paired.length hU
   have h2:=oB evs i
   rw[List.length_cons] at h1
   omega
  refine⟨fun σ' H'=>(∃(us:List V) (v3 v4 v5 v6:Option V),σ'=[some (.ref le),some (.ref l),some (.int (0 + (i:Int))),v3,v4,v5,v6]∧qx H H'∧H' l=some (.lst us)∧Paired (pd H') us (("whole",0,evs.length,kC 0 (xT evs (i + 1))) :: xT evs (i + 1)))∨False,?_,?_⟩
  ·walk_at "rd"
   refine⟨le,_,_,_,rfl,rfl,qC.of eL3,hix0,?_⟩
   refine⟨p,_,_,_,rfl,rfl,kU.of ep,ex,?_⟩
   walk_at "rd"
   refine kD (fun h1=>?_) (fun h1=>?_)
   ·obtain⟨n',rs',rfl⟩:=wX (of_decide_eq_true h1)
    obtain⟨p',q',hpp,ep',eq'⟩:=id hE
    cases hpp
    have hso:=iG hdp hei
    walk_at "rd"
    refine⟨fun m σ' H'=>∃(v6:Option V) (d dm a:Nat),σ'=[some (.ref le),some (.ref l),some (.int (0 + (i:Int))),some (.int (d:Int)),some (.int (dm:Int)),some (.int (a:Int)),v6]∧H'=H3∧m=evs.length - a∧kF (evs.drop (i + 1)) 1 1 (i + 1)=kF (evs.drop a) d dm a∧fN (evs.drop a) d∧1≤dm,⟨_,v6,1,1,i + 1,by rw[show ((i + 1:Nat):Int)=0 + (i:Int) + 1 by omega];rfl,rfl,rfl,rfl,hso,Nat.le_refl _⟩,?_⟩
    rintro m σ' H4 ⟨w6,d,dm,a,rfl,rfl,rfl,hsc,hso',hdm⟩
    walk_at "rd"
    refine kD (fun h2=>?_) (fun h2=>?_)
    ·have hd0:(0:Int) < (d:Int):=of_decide_eq_true h2
     obtain⟨d',rfl⟩:∃d',d=d' + 1:=⟨d - 1,by omega⟩
     have ha:a < evs.length:=by
      by_cases z:a < evs.length
      ·exact z
      ·rw[List.drop_eq_nil_of_le (by omega)] at hso'
       exact hso'.elim
     obtain⟨e',p2,xs2,hei2,hE2,hix2,ep2,ex2⟩:=hat a ha
     have q1:=Zd (d:=d' + 1) (Nat.succ_pos d') e'
     have qm:((max dm (vV (d' + 1) e'):Nat):Int)=if ((vV (d' + 1) e':Nat):Int) > (dm:Int) then ((vV (d' + 1) e':Nat):Int) else (dm:Int):=by
      split<;>omega
     refine⟨_,fun _ _ z=>z,?_⟩
     walk_at "rd"
     refine⟨le,_,_,_,rfl,rfl,qC.of eL3,hix2,?_⟩
     refine⟨p2,_,_,_,rfl,rfl,kU.of ep2,ex2,?_⟩
     walk_at "rd"
     refine .inr ⟨_,rfl,?_⟩
     walk_at "rd"
     refine .inr ⟨_,rfl,?_⟩
     walk_at "rd"
     have hdr:=Zv hei2
     rw[hdr] at hsc hso'
     refine⟨evs.length - (a + 1),by omega,_,vV (d' + 1) e',max dm (vV (d' + 1) e'),a + 1,by rw[qm,←q1,show ((a + 1:Nat):Int)=(a:Int) + 1 by omega];rfl,rfl,rfl,?_,hso',by omega⟩
     rw[hsc,wg]
    ·have hd0:d=0:=by
      by_cases z:(0:Int) < (d:Int)
      ·exact absurd (decide_eq_true z) h2
      ·omega
     subst hd0
     have hsp:kF (evs.drop (i + 1)) 1 1 (i + 1)=(a,dm):=by rw[hsc];cases evs.drop a<;>rfl
     have hspan:xW evs i=some (n',i,a,dm - 1):=by
      unfold xW
      rw[hei]
      show some (n',i,(kF (evs.drop (i + 1)) 1 1 (i + 1)).1,(kF (evs.drop (i + 1)) 1 1 (i + 1)).2 - 1)=_
      rw[hsp]
     match us,hU with
     | u0 :: us',.cons ⟨p0,hp0,ep0⟩ hU'=>
      subst hp0
      walk_at "rd"
      refine⟨le,_,_,_,rfl,rfl,qC.of eL3,hix0,?_⟩
      refine⟨p,_,_,_,rfl,rfl,kU.of ep',rfl,?_⟩
      walk_at "rd"
      intro tp H5 s5 htp e5
      refine⟨l,_,_,rfl,rfl,s5 _ _ e3,qy (by omega),?_⟩
      intro H6 k6 e6
      have eL6:=k6.look (s5 _ _ eL3) (qb hL hlH)
      have ep06:=k6.look (s5 _ _ ep0) (xU ep0 e3 (by intro z;cases z))
      walk_at "rd"
      refine⟨le,_,rfl,.inl (qC.of eL6),?_⟩
      rw[hwl]
      walk_at "rd"
      refine⟨l,_,_,_,rfl,rfl,qC.of e6,(show f7 (V.ref p0 :: us' ++ [V.ref tp]) ((0:Nat):Int)=some (V.ref p0) from gN (by simp)),?_⟩
      refine⟨p0,_,_,_,rfl,rfl,kU.of ep06,rfl,?_⟩
      walk_at "rd"
      intro t7 H7 s7 ht7 e7
      refine⟨_,rfl,l,_,_,0,rfl,rfl,s7 _ _ e6,QX (by decide) (by simp only[List.length_append,List.length_cons];omega),?_⟩
      intro H8 k8 e8
      have s68:qx H H8:=k8.put ((k6.put (s3.trans s5) hlH).trans s7) hlH
      have hmx:(if ((dm:Nat):Int) > ((kC 0 (xT evs i):Nat):Int) then ((dm:Nat):Int) else ((kC 0 (xT evs i):Nat):Int))=((kC 0 (xT evs (i + 1)):Nat):Int):=by
       rw[gM,hspan,Option.toList_some,nT]
       show _=((max (kC 0 (xT evs i)) (dm - 1 + 1):Nat):Int)
       split<;>omega
      refine .inl ⟨_,_,_,_,_,rfl,s68,e8,?_⟩
      rw[List.cons_append,List.set_cons_zero]
      refine .cons ⟨t7,rfl,?_⟩ ?_
      ·have e78:=k8.look e7 (xU e7 (s7 _ _ e6) (by intro z;cases z))
       rw[e78]
       exact congrArg (fun z=>some (HO.tup [.str "whole",.int 0,.int (evs.length:Int),.int z])) hmx
      ·rw[gM,hspan,Option.toList_some]
       have hk6:∀v s,pd H4 v s→pd H8 v s:=fun v s z=>(((z.same s5).keeps k6 (s5 _ _ e3)).same s7).keeps k8 (s7 _ _ e6)
       refine Paired.app (Paired.imp' hk6 hU') (.cons ⟨tp,rfl,?_⟩ .nil)
       have e58:=k8.look (s7 _ _ (k6.look e5 (xU e5 (s5 _ _ e3) (by intro z;cases z)))) (xU (s7 _ _ (k6.look e5 (xU e5 (s5 _ _ e3) (by intro z;cases z)))) (s7 _ _ e6) (by intro z;cases z))
       rw[e58]
       show some (HO.tup [.str n',.int (0 + (i:Int)),.int (a:Int),.int ((dm:Int) - 1)])=some (HO.tup [.str n',.int ((i:Nat):Int),.int ((a:Nat):Int),.int (((dm - 1:Nat)):Int)])
       rw[Int.zero_add,show ((dm - 1:Nat):Int)=(dm:Int) - 1 by omega]
   ·have hno:∀m rs,e≠.pt m rs:=fun m rs z=>h1 (decide_eq_true (by rw[z];rfl))
    refine .inl ⟨us,v3,v4,v5,v6,rfl,s3,e3,?_⟩
    rw[gM,bq hei hno]
    simpa using hU
  ·rintro σ' H6 (⟨us',w3,w4,w5,w6,rfl,s6,e6,hU6⟩ | ⟨⟨⟩⟩)
   exact .inl ⟨us',_,w3,w4,w5,w6,rfl,s6,e6,hU6⟩
 ·intro σ H3 q
  obtain⟨us,v2,v3,v4,v5,v6,rfl,s3,e3,hU⟩:=q.resolve_right (fun z=>z)
  walk_at "rd"
  exact kk l H3 us s3 hlH e3 hU
end
theorem cC {J:It} {H:Hp} {xs:List V} {qH:List Nat} {te:TE} {σ:L2.St} {Q:VK} (hJ:nC J H xs) (Pr:Nat→V→Hp→V→Prop) (hsz:xs.length≤sizeLine)
  (m1:∀(i:Nat) (y v:V) (H1 H2:Hp),qx H1 H2→Pr i y H1 v→Pr i y H2 v) (m2:∀(i:Nat) (y v:V) (H1:Hp) (D:Addr) (ys zs:List V),H1 D=some (.lst ys)→Pr i y H1 v→Pr i y (upd H1 D (.lst zs)) v)
  (hs:∀(i:Nat) (y:V) (H':Hp) (Q':VK),xs[i]?=some y→qx H H'→(∀v H4,qx H' H4→Pr i y H4 v→Q' v H4)→te (some y :: vT σ qH) H' Q')
  (hd:∀(D:Addr) (H':Hp) (ys:List V),qx H H'→H D=none→H' D=some (.lst ys)→ys.length=xs.length→(∀(i:Nat) (y v:V),xs[i]?=some y→ys[i]?=some v→Pr i y H' v)→Q (.ref D) H') :
  tM J qH te σ Q H:=by
 intro D hD
 refine⟨fun i m H2=>m=xs.length - i∧i≤xs.length∧qx H H2∧∃ys,H2 D=some (.lst ys)∧ys.length=i∧∀(j:Nat) (y v:V),xs[j]?=some y→ys[j]?=some v→Pr j y H2 v,
  ⟨xs.length,by simp,Nat.zero_le _,qx.sT hD,[],qg,rfl,fun j y v _ e=>by simp at e⟩,?_⟩
 rintro i m H2 ⟨rfl,hi,s2,ys,hy,hl,hp⟩
 obtain⟨j1,j2,j3⟩:=hJ i H2 s2
 by_cases hlt:i < xs.length
 ·refine .inr ⟨j1 hlt,fun y H3 q=>?_⟩
  obtain⟨e3,ey⟩:=j2 y H3 q
  subst e3
  refine hs i y _ _ (ey hlt) s2 fun v H4 s4 pr=>⟨ys,s4 D _ hy,by omega,xs.length - (i + 1),by omega,rfl,hlt,fun b o e=>?_,ys ++ [v],qg,by simp [hl],fun j y' v' e1 e2=>?_⟩
  ·rw[qY (qb e hD)]
   exact s4 b o (s2 b o e)
  ·refine m2 j y' v' H4 D ys _ (s4 D _ hy) ?_
   by_cases hj:j < ys.length
   ·rw[List.getElem?_append_left hj] at e2
    exact m1 _ _ _ _ _ s4 (hp j y' v' e1 e2)
   ·have hje:j=i:=by
     have:=(List.getElem?_eq_some_iff.mp e2).1
     simp at this;omega
    subst hje
    rw[List.getElem?_append_right (by omega),hl,Nat.sub_self] at e2
    rw[ey hlt] at e1
    cases e1
    have:v=v':=by simpa using e2
    subst this
    exact pr
 ·(have e:i=xs.length:=by omega)
  subst e
  exact .inl ⟨j3 rfl,hd D H2 ys s2 hD hy hl hp⟩
theorem cV:∀{ws:List Str},ws≠[]→(∀x∈ws,asc x)→∀c∈(Str.join " " ws).cps.toList,c < 128
 | [],h,_=>absurd rfl h
 | [x],_,h=>by rw[L2.join_one];exact h x (by simp)
 | x :: y :: r,_,h=>by
  rw[qZ]
  intro c hc
  (rcases List.mem_append.mp hc with hc | hc)
  ·exact h x (by simp) c hc
  (rcases List.mem_cons.mp hc with rfl | hc)
  ·decide
  ·exact cV (ws:=y :: r) (by simp) (fun z hz=>h z (List.mem_cons_of_mem _ hz)) c hc
theorem tD {e:Ew} (h:∀x∈e.ws,asc x):asc e.row:=by
 unfold Ew.row
 intro c hc
 rw[join_eq] at hc
 exact cV e.ne h c hc
theorem sN {e:Ew} (h:e.ok):asc e.row:=tD fun x hx=>(Ew.wk h x hx).1.as
theorem oO:asc (Ew.row (.pt "whole" [])):=tD fun x hx=>by
 have k:∀x∈(["part","whole"]:List Str),asc x:=by unfold asc;decide +kernel
 exact k x hx
theorem oI:Ew.row (.pt "whole" []) = "part whole":=by decide +kernel
theorem iX {α:Type} (f:α→V) (xs:List α) (a b:Nat):wR (xs.map f) (some (a:Int)) (some (b:Int))=((xs.drop a).take (b - a)).map f:=by
 unfold wR
 rw[HT.wH,HT.wH,List.length_map,←List.map_drop,←List.map_take]
 congr 1
 by_cases ha:a≤xs.length
 ·rw[Nat.min_eq_left ha]
  by_cases hb:b≤xs.length
  ·rw[Nat.min_eq_left hb]
  ·rw[Nat.min_eq_right (by omega),List.take_of_length_le (by rw[List.length_drop];omega),List.take_of_length_le (by rw[List.length_drop];omega)]
 ·have hm:min a xs.length=xs.length:=by omega
  rw[hm,List.drop_eq_nil_of_le (Nat.le_refl _),List.drop_eq_nil_of_le (by omega)]
  simp
structure ph (evs:List Ew) (s:cx) (rs:List Str) (rows:List Rw):Prop where
 dp:qS rows≤6
 ko:jB rows
 ok:∀e∈z9 rows,e.ok
 len:(z9 rows).length≤66
 nl:s.1.length≤8
 rl:∀x∈rs,x.length≤8
 rc:rs.length≤12
 sd:s.2.2.2=qS rows
 ar:asc (Ew.row (.pt s.1 rs))
 an:asc s.1
 el:evs.length≤66
 w:(s.1 = "whole"∧rs=[]∧z9 rows=evs∧s.2.1=0∧s.2.2.1=evs.length)∨(s.1≠"whole"∧(evs.drop s.2.1).take (s.2.2.1 - s.2.1)=qh (.pt s.1 rs rows))
theorem ph.Ju {evs:List Ew} {s:cx} {rs:List Str} {rows:List Rw} (h:ph evs s rs rows):SeqAt.shaped (.list (((qh (.pt s.1 rs rows)).map Ew.row).map PyData.str))=true:=vn fun y hy=>by
 obtain⟨e,he,rfl⟩:=List.mem_map.mp hy
 rw[qh] at he
 (rcases List.mem_cons.mp he with rfl | he)
 ·exact h.ar.ok
 (rcases List.mem_append.mp he with he | he)
 ·exact(sN (h.ok e he)).ok
 ·rw[List.mem_singleton.mp he];exact(sN (e:=.dn) True.intro).ok
noncomputable def ae (t:ja):Sp:=fun vs H Q _=>∃(q pp lr:Addr) (evs:List Ew) (s:cx) (rs:List Str) (rows:List Rw),vs=[.ref q,.ref pp,.ref lr]∧qF t [] H (.pt s.1 rs rows) (.ref q)∧H pp=some (.tup [.str s.1,.int (s.2.1:Int),.int (s.2.2.1:Int),.int (s.2.2.2:Int)])∧H lr=some (.lst ((evs.map Ew.row).map V.str))∧ph evs s rs rows∧∀H',qx H H'→Q (.bl true) H'
section
variable {P:Program} {w:World} {K:PySem.W.Frag} {mg:Str→Option Value} {base:Heap} {t:ja}
theorem xX:qX ["_law_part","_law_span","_law_rows_here","_law_due","_law_found","_law_depth"] ["_law_part","_law_span","_law_rows_here"] (z5 jc):=⟨rfl,rfl,rfl,by decide +kernel,rfl,by decide +kernel,by decide +kernel⟩
set_option maxHeartbeats 400000 in
theorem y9 (T:Txt K mg t):qJ P w K mg base jO 11 t.xF t.xP ["_law_part","_law_span","_law_rows_here"] (ae t):=by
 have G_v_depth_of:qJ P w K mg base jO 10 t.x5 t.xA ["part"] ((ZM t) 7):=(cm T).mono (by decide)
 refine T.js.fn.ok xX (fun vs H Q E h=>(by obtain⟨_,_,_,_,_,_,_,rfl,_⟩:=h;rfl)) (fun cdv A outer s H vs Q E hr h=>?_)
 obtain⟨q,pp,lr,evs,s',rs,rows,rfl,hR,eS,eR,hO,kk⟩:=h
 refine⟨_,(z4 (ql (i:=3) xX.nd rfl (Or.inl rfl) (yr (yd (K:=K) rfl) (pv 2) (vx (qv (qz (K:=K) rfl) (pv 1) z3 (fun _ _=>rfl))) (vx (qv (qz (K:=K) rfl) (pv 1) z3 (fun _ _=>rfl)))))
   (z4 (PS.join (qN (qu jo (qv (qz (K:=K) rfl) (pv 1) z3 (fun _ _=>rfl)) z8 (qi _))
    (z7 (ql (i:=3) xX.nd rfl (Or.inl rfl) (qk yR (qk yR (qD (z0 z8 z6)) (pv 2)) (qD (z0 z8 z6))))) qo))
   (z4 (ql (i:=4) xX.nd rfl (Or.inl rfl) (yu hr (pv 0)))
   (z4 (ql (i:=5) xX.nd rfl (Or.inl rfl) (qe G_v_depth_of hr rfl T.xJ.mg T.xJ.fn.kp T.xJ.bd .nil qW (z0 (pv 0) z6)))
   (z4 (qN (PW.pt (bP (yz (xV (qU (qL (K:=K) rfl) rfl T.qM PyProof.Rows.boot_isinstance (z0 (pv 4) (z0 (yL rfl T.wU PyProof.Rows.boot_list (v:=.ty "list") rfl) z6))))) (yq (qu (hV (K:=K) rfl hr.units) (pv 4) (pv 3) (qi _)))))
    (z7 (qr gz)) qo)
   (z4 (qN (PW.pt (bP (yz (xV (qU (qL (K:=K) rfl) rfl T.qM PyProof.Rows.boot_isinstance (z0 (pv 0) (z0 (wY rfl T.wN (v:=.ref t.qa) rfl) z6))))) (yq (qu eX (qP (K:=K) rfl (pv 0) rfl) (qv (qz (K:=K) rfl) (pv 1) z3 (fun _ _=>rfl)) (qi _)))))
    (z7 (qr gz)) qo)
   (z4 (jf (fS PySem.F.plainAttrs_list PySem.F.slot_list_clear PySem.F.type_list_clear gG (pv 4)))
   (z7 (qr (tw (qU (qL (K:=K) rfl) rfl T.qM PyProof.Rows.boot_isinstance (z0 (pv 5) (z0 (yL rfl T.pQ PyProof.Rows.boot_int (v:=.ty "int") rfl) z6))) (tw (QE (qU (qL (K:=K) rfl) rfl T.qM PyProof.Rows.boot_isinstance (z0 (pv 5) (z0 (yL rfl T.su PyProof.Rows.boot_bool (v:=.ty "bool") rfl) z6)))) (tw (vB jo (pv 5) (qv (qz (K:=K) rfl) (pv 1) z3 (fun _ _=>rfl)) (qi _)) (QA (vB (nZ (K:=K) rfl hr.units) (yu hr (pv 0)) (pv 3) (qi _))))))))))))))),?_⟩
 obtain⟨nm,sa,sb,sd⟩:=s'
 have hsd:sd=qS rows:=hO.sd
 subst hsd
 have hF:(qh (.pt nm rs rows)).map (fun e=>V.str e.row)=((qh (.pt nm rs rows)).map Ew.row).map V.str:=by rw[List.map_map];rfl
 have Ju:=hO.Ju
 have hfl:(qh (.pt nm rs rows)).length=(z9 rows).length + 2:=by rw[qh];simp
 have hlen:=hO.len
 have hel:=hO.el
 walk_at "rd"
 rw[iX]
 intro l0 H0 s0 hl0 e0
 have eS0:=s0 _ _ eS
 have eR0:=s0 _ _ eR
 refine⟨fun σ' H'=>(∃ld,σ'=[some (.ref q),some (.ref pp),some (.ref lr),some (.ref ld),none,none]∧qx H H'∧H' ld=some (.lst (((qh (.pt nm rs rows)).map Ew.row).map V.str)))∨False,?_,?_⟩
 ·walk_at "rd"
  refine kD (fun h1=>?_) (fun h1=>?_)
  ·have e1:nm = "whole":=V.str.inj (of_decide_eq_true h1)
   rcases hO.w with ⟨_,hrs,hfe,_,_⟩ | ⟨h2,_⟩
   ·subst e1 hrs
    walk_at "rd"
    intro l1 H1 s1 hl1 e1
    have eR1:=s1 _ _ eR0
    walk_at "rd"
    refine⟨l1,lr,_,_,rfl,rfl,e1,eR1,qy (by simp only[List.length_map,List.length_cons,List.length_nil];omega),?_⟩
    intro l2 H2 s2 hl2 e2
    walk_at "rd"
    intro l3 H3 s3 hl3 e3
    refine⟨l2,l3,_,_,rfl,rfl,s3 _ _ e2,e3,qy (by simp only[List.length_append,List.length_map,List.length_cons,List.length_nil];omega),?_⟩
    intro l4 H4 s4 hl4 e4
    refine .inl ⟨l4,rfl,(((s0.trans s1).trans s2).trans s3).trans s4,?_⟩
    rw[e4,qh,hfe,List.map_cons,List.map_append,oI,List.map_cons,List.map_append,List.map_cons,List.map_nil,fK]
    rfl
   ·exact absurd e1 h2
  ·rcases hO.w with ⟨h2,_⟩ | ⟨_,h2⟩
   ·exact absurd (decide_eq_true (by rw[show nm = "whole" from h2])) h1
   ·refine .inl ⟨l0,rfl,s0,?_⟩
    rw[e0,←List.map_drop,←List.map_take]
    exact congrArg (fun z=>some (HO.lst ((z.map Ew.row).map V.str))) h2
 rintro σ' H1 (⟨ld,rfl,s1,ed⟩ | ⟨⟨⟩⟩)
 have hR1:qF t [] H1 (.pt nm rs rows) (.ref q):=hR.move (Fm.of s1) fun _ z=>.inl z
 have eS1:=s1 _ _ eS
 obtain⟨q',dx,a,b,ys,eqq,_,_,_,ep,_⟩:∃q' dx a b ys,V.ref q=.ref q'∧q'∉([]:List Addr)∧a∉([]:List Addr)∧b∉([]:List Addr)∧H1 q'=some (.ins t.qa dx (sv nm a b))∧H1 a=some (.lst (rs.map V.str))∧H1 b=some (.lst ys)∧qt t [] H1 rows ys:=by
  have z:=hR1
  unfold qF at z
  exact z
 cases eqq
 have MP:yt P w K mg base jO 10 t.qa "rows_told" (ZC t 9):=.mk' T.kG (fk T) T.xH.bd (by decide)
 have hdp:=hO.dp
 clear s0 e0 eS0 eR0 hl0
 walk_at "rd"
 refine⟨q,t.qa,dx,_,rfl,ep,T.xY,uu uz.1,_,MP,?_⟩
 refine⟨[],q,nm,rs,rows,rfl,hR1,hO.ko,hO.ok,hO.nl,hO.rl,hO.rc,(show qS rows + 1≤8 by omega),by omega,fun lf H2 s2 hlf e2=>?_⟩
 rw[hF] at e2
 have hR2:qF t [] H2 (.pt nm rs rows) (.ref q):=hR1.move (Fm.of s2) fun _ z=>.inl z
 walk_at "rd"
 refine⟨[],q,nm,rs,rows,rfl,hR2,hO.dp,hO.ko,by omega,fun H3 s3=>?_⟩
 have s23:=s2.trans s3
 have e23:=s3 _ _ e2
 have ed3:=s23 _ _ ed
 have ep3:=s23 _ _ ep
 have eS3:=s23 _ _ eS1
 have nld:ld≠lf:=qb ed hlf
 have s13:qx H H3:=s1.trans s23
 have hlfH:H lf=none:=s1.free hlf
 have ty:kx K H3 (.ref q) (.ref t.qa):=kx.ins ep3 T.xY T.yN.1 T.fD T.cA T.yN.2
 clear s2 s3 s23 s1 e2 ed ep eS1
 walk_at "rd"
 refine⟨_,_,pf.lst (qC.of e23) (va.strs _),pf.lst (qC.of ed3) (va.strs _),Ju,Ju,?_⟩
 rw[gp,decide_eq_true rfl]
 walk_at "rd"
 refine⟨_,_,_,_,rfl,.inr ⟨_,rfl⟩,ty,T.x6,_,rfl,?_⟩
 walk_at "rd"
 refine⟨_,rY T ep3,?_⟩
 walk_at "rd"
 refine⟨lf,_,rfl,rfl,e23,?_⟩
 intro H4 k4 e4
 have s4:qx H H4:=k4.put s13 hlfH
 have ed4:=k4.look ed3 nld
 have ep4:=k4.look ep3 (xU ep3 e23 (by intro z;cases z))
 have eS4:=k4.look eS3 (xU eS3 e23 (by intro z;cases z))
 have hR4:qF t [] H4 (.pt nm rs rows) (.ref q):=hR.move (Fm.of s4) fun _ z=>.inl z
 walk_at "rd"
 refine⟨_,_,.type "int",false,rfl,.inl ⟨_,rfl⟩,kx.int _,T.gs,?_⟩
 walk_at "rd"
 refine kD (fun _=>?_) (fun h=>absurd (decide_eq_true rfl) h)
 walk_at "rd"
 refine⟨q,t.qa,dx,_,rfl,ep4,T.xY,uu uz.1,_,MP,?_⟩
 refine⟨[],q,nm,rs,rows,rfl,hR4,hO.ko,hO.ok,hO.nl,hO.rl,hO.rc,(show qS rows + 1≤8 by omega),by omega,fun lg H5 s5 hlg e5=>?_⟩
 rw[hF] at e5
 refine⟨_,rfl,_,_,pf.lst (qC.of e5) (va.strs _),pf.lst (qC.of (s5 _ _ ed4)) (va.strs _),Ju,Ju,?_⟩
 rw[gp,decide_eq_true rfl]
 exact kk H5 (s4.trans s5)
end
theorem du:∀{a b:List Rw},jB a→jB b→jB (a ++ b)
 | [],_,_,h=>h
 | _ :: _,_,h,h2=>by rw[jB] at h;rw[List.cons_append,jB];exact⟨h.1,du h.2 h2⟩
noncomputable def aU (H:Hp):V→Option Str
 | .ref a=>match H a with
  | some (.tup (.str x :: _))=>some x
  | _=>none
 | _=>none
theorem iP {H:Hp} {v:V} {e:Ew} (h:wm H v e):aU H v=some (kw e):=by
 cases e with
 | pt n rs=>obtain⟨p,q,rfl,e1,_⟩:=h;unfold aU;dsimp only;rw[e1];rfl
 | lt a b=>obtain⟨p,rfl,e1⟩:=h;unfold aU;dsimp only;rw[e1];rfl
 | mu l w a n r=>obtain⟨p,rfl,e1⟩:=h;unfold aU;dsimp only;rw[e1];rfl
 | my l w a=>obtain⟨p,rfl,e1⟩:=h;unfold aU;dsimp only;rw[e1];rfl
 | bn l w a r=>obtain⟨p,rfl,e1⟩:=h;unfold aU;dsimp only;rw[e1];rfl
 | pw l w a r=>obtain⟨p,rfl,e1⟩:=h;unfold aU;dsimp only;rw[e1];rfl
 | dn=>obtain⟨p,rfl,e1⟩:=h;unfold aU;dsimp only;rw[e1];rfl
noncomputable def XE (H:Hp) (v:V):Bool:=match aU H v with
 | some y=>decide (V.str y=V.str (Str.ofString "part"))
 | none=>false
noncomputable def bc:List V:=[V.str "must",V.str "may",V.str "ban",V.str "power"]
noncomputable def Jb (H:Hp) (v:V):Bool:=match aU H v with
 | some y=>mX (.str y) bc
 | none=>false
noncomputable def iI:Ew→Bool
 | .pt _ _=>true
 | _=>false
theorem si {H:Hp} {v:V} {e:Ew} (h:wm H v e):XE H v=decide (V.str (kw e)=V.str (Str.ofString "part")):=by
 unfold XE;rw[iP h]
theorem ud {H:Hp} {v:V} {e:Ew} (h:wm H v e):Jb H v=mX (.str (kw e)) bc:=by
 unfold Jb;rw[iP h]
theorem Wm (e:Ew):decide (V.str (kw e)=V.str (Str.ofString "part"))=iI e:=by
 cases e with
 | pt n rs=>exact decide_eq_true rfl
 | lt a b=>exact decide_eq_false fun z=>by obtain⟨_,_,q⟩:=wX z;cases q
 | mu l w a n r=>exact decide_eq_false fun z=>by obtain⟨_,_,q⟩:=wX z;cases q
 | my l w a=>exact decide_eq_false fun z=>by obtain⟨_,_,q⟩:=wX z;cases q
 | bn l w a r=>exact decide_eq_false fun z=>by obtain⟨_,_,q⟩:=wX z;cases q
 | pw l w a r=>exact decide_eq_false fun z=>by obtain⟨_,_,q⟩:=wX z;cases q
 | dn=>exact decide_eq_false fun z=>by obtain⟨_,_,q⟩:=wX z;cases q
theorem yF:mX (.str ("must" : Str)) bc=true∧mX (.str ("may" : Str)) bc=true∧mX (.str ("ban" : Str)) bc=true∧mX (.str ("power" : Str)) bc=true∧mX (.str ("let" : Str)) bc=false∧mX (.str ("part" : Str)) bc=false∧mX (.str ("done" : Str)) bc=false:=by decide +kernel
theorem Vo (e:Ew):mX (.str (kw e)) bc=ie e:=by
 cases e with
 | pt n rs=>exact yF.2.2.2.2.2.1
 | lt a b=>exact yF.2.2.2.2.1
 | mu l w a n r=>exact yF.1
 | my l w a=>exact yF.2.1
 | bn l w a r=>exact yF.2.2.1
 | pw l w a r=>exact yF.2.2.2.1
 | dn=>exact yF.2.2.2.2.2.2
theorem vj {α β:Type} {F:α→β→Prop} {p:α→Bool} {p':β→Bool} (h:∀a b,F a b→p a=p' b):∀{as:List α} {bs:List β},Paired F as bs→Paired F (as.filter p) (bs.filter p')
 | _,_,.nil=>.nil
 | a :: as,b :: bs,.cons h1 t=>by
  have ih:=vj h t
  rw[List.filter_cons,List.filter_cons,h a b h1]
  cases p' b with
  | false=>simpa using ih
  | true=>simpa using Paired.cons h1 ih
theorem ml {α β:Type} {F:α→β→Prop}:∀{as:List α} {bs:List β} (n:Nat),Paired F as bs→Paired F (as.drop n) (bs.drop n)
 | _,_,0,h=>h
 | _,_,n + 1,.nil=>.nil
 | _ :: _,_ :: _,n + 1,.cons _ t=>ml n t
theorem mi {α β:Type} {F:α→β→Prop}:∀{as:List α} {bs:List β} (n:Nat),Paired F as bs→Paired F (as.take n) (bs.take n)
 | _,_,0,_=>.nil
 | _,_,n + 1,.nil=>.nil
 | _ :: _,_ :: _,n + 1,.cons h t=>.cons h (mi n t)
theorem Zj (xs:List V) (a b:Nat):wR xs (some (a:Int)) (some (b:Int))=(xs.drop a).take (b - a):=by
 have:=iX id xs a b
 rwa [List.map_id,List.map_id] at this
theorem mm {H:Hp}:∀{ws:List V} {es:List Ew} {zs:List V},Paired (wm H) ws es→(∀e∈es,iI e=true)→Paired (fun y v:V=>∀n rs,wm H y (.pt n rs)→v=.str n) ws zs→zs=(es.filterMap uE).map V.str
 | _,_,_,.nil,_,.nil=>rfl
 | _ :: _,e :: es,_,.cons h t,hp,.cons h2 t2=>by
  have ih:=mm t (fun x hx=>hp x (List.mem_cons_of_mem _ hx)) t2
  have h0:=hp e List.mem_cons_self
  cases e with
  | pt n rs=>rw[List.filterMap_cons];show _=((n :: es.filterMap uE).map V.str);rw[List.map_cons,←ih,h2 n rs h]
  | _=>cases h0
theorem filterMap_filter (es:List Ew):(es.filter iI).filterMap uE=es.filterMap uE:=by
 induction es with
 | nil=>rfl
 | cons e es ih=>cases e<;>simp [List.filter_cons,iI,uE,List.filterMap_cons,ih]
theorem ph.Vn {evs:List Ew} {s:cx} {rs:List Str} {rows:List Rw} (h:ph evs s rs rows):(s.1 = "whole"∧(evs.drop s.2.1).take (s.2.2.1 - s.2.1)=z9 rows)∨(s.1≠"whole"∧(evs.drop s.2.1).take (s.2.2.1 - s.2.1)=qh (.pt s.1 rs rows)):=by
 rcases h.w with ⟨h1,h2,h3,h4,h5⟩ | ⟨h1,h2⟩
 ·exact .inl ⟨h1,by rw[h4,h5,List.drop_zero,Nat.sub_zero,List.take_length,h3]⟩
 ·exact .inr ⟨h1,h2⟩
theorem ph.cls {evs:List Ew} {s:cx} {rs:List Str} {rows:List Rw} (h:ph evs s rs rows):((evs.drop s.2.1).take (s.2.2.1 - s.2.1)).filter ie=z9 (xl rows):=by
 rcases h.Vn with ⟨_,h2⟩ | ⟨_,h2⟩
 ·rw[h2,yv]
 ·rw[h2,←cF,yk]
theorem ph.Wc {evs:List Ew} {s:cx} {rs:List Str} {rows:List Rw} (h:ph evs s rs rows):(if s.1 = "whole" then [("whole" : Str)] else []) ++ ((evs.drop s.2.1).take (s.2.2.1 - s.2.1)).filterMap uE=(je (.pt s.1 rs rows)).map gq:=by
 rcases h.Vn with ⟨h1,h2⟩ | ⟨h1,h2⟩
 ·rw[h2,if_pos h1,ou,je,List.map_cons]
  show _=s.1 :: _
  rw[h1]
  rfl
 ·rw[h2,if_neg h1,J2]
  rfl
theorem ph.Jr {evs:List Ew} {s:cx} {rs:List Str} {rows:List Rw} (h:ph evs s rs rows):SeqAt.shaped (.list (((je (.pt s.1 rs rows)).map gq).map PyData.str))=true:=vn fun y hy=>by
 rw[je,List.map_cons] at hy
 (rcases List.mem_cons.mp hy with rfl | hy)
 ·exact h.an.ok
 ·rw[←ou] at hy
  obtain⟨e,he,h2⟩:=List.mem_filterMap.mp hy
  have ho:=h.ok e he
  cases e with
  | pt n rs=>cases h2;exact uJ ho.1
  | _=>cases h2
mutual
theorem iQ:∀{r:Rw},kq r→jB (yk r)
 | .lt _ _,_=>by rw[yk];exact True.intro
 | .cl k l u a n r,h=>by rw[yk,jB,jB];exact⟨h,True.intro⟩
 | .pt n rs rows,h=>by rw[yk];rw[kq] at h;exact mB h
theorem mB:∀{rows:List Rw},jB rows→jB (xl rows)
 | [],_=>by rw[xl];exact True.intro
 | r :: rs,h=>by
  rw[jB] at h
  rw[xl]
  exact du (iQ h.1) (mB h.2)
end
mutual
theorem a9:∀(r:Rw),∀x∈yk r,∃k l u a n r',x=.cl k l u a n r'
 | .lt _ _,x,h=>by rw[yk] at h;cases h
 | .cl k l u a n r,x,h=>by rw[yk] at h;exact⟨k,l,u,a,n,r,List.mem_singleton.mp h⟩
 | .pt n rs rows,x,h=>by rw[yk] at h;exact ub rows x h
theorem ub:∀(rows:List Rw),∀x∈xl rows,∃k l u a n r',x=.cl k l u a n r'
 | [],x,h=>by rw[xl] at h;cases h
 | r :: rs,x,h=>by
  rw[xl] at h
  (rcases List.mem_append.mp h with h | h)
  ·exact a9 r x h
  ·exact ub rs x h
end
theorem bN {H:Hp}:∀{cs:List Rw} {vs:List V},vs.length=cs.length→(∀(i:Nat) (v:V) (r:Rw),vs[i]?=some v→cs[i]?=some r→Paired (wm H) [v] (qh r))→Paired (wm H) vs (z9 cs)
 | [],[],_,_=>by rw[z9];exact .nil
 | [],_ :: _,h,_=>by cases h
 | _ :: _,[],h,_=>by cases h
 | c :: cs,v :: vs,hl,h=>by
  rw[z9]
  exact Paired.app (h 0 v c rfl rfl) (bN (by simpa using hl) fun i v' r h1 h2=>h (i + 1) v' r h1 h2)
noncomputable def Xr (t:ja):Sp:=fun vs H Q _=>∃(q pp le:Addr) (evs:List Ew) (ws:List V) (s:cx) (rs:List Str) (rows:List Rw),vs=[.ref q,.ref pp,.ref le]∧qF t [] H (.pt s.1 rs rows) (.ref q)∧H pp=some (.tup [.str s.1,.int (s.2.1:Int),.int (s.2.2.1:Int),.int (s.2.2.2:Int)])∧H le=some (.lst ws)∧Paired (wm H) ws evs∧(∀e∈evs,e.ok)∧ph evs s rs rows∧∀H',qx H H'→Q (.bl true) H'
section
variable {P:Program} {w:World} {K:PySem.W.Frag} {mg:Str→Option Value} {base:Heap} {t:ja}
theorem vt:qX ["_law_part","_law_span","_law_events_here","_law_inner","_law_names","_law_due"] ["_law_part","_law_span","_law_events_here"] (z5 jZ):=⟨rfl,rfl,rfl,by decide +kernel,rfl,by decide +kernel,by decide +kernel⟩
set_option maxHeartbeats 400000 in
theorem lZ (T:Txt K mg t):qJ P w K mg base jO 11 t.yP t.yK ["_law_part","_law_span","_law_events_here"] (Xr t):=by
 have G_w_clause:qJ P w K mg base jO 10 t.wz t.vI ["_law_row_here"] (fE t):=(mr T).mono (by decide)
 have G_v_clauses_of:qJ P w K mg base jO 10 t.jV t.jK ["part"] ((oG t) 7):=(vX T).mono (by decide)
 have G_v_parts_of:qJ P w K mg base jO 10 t.jD t.jM ["part"] ((tQ t) 7):=(vq T).mono (by decide)
 refine T.gS.fn.ok vt (fun vs H Q E h=>(by obtain⟨_,_,_,_,_,_,_,_,rfl,_⟩:=h;rfl)) (fun cdv A outer s H vs Q E hr h=>?_)
 obtain⟨q,pp,le,evs,ws,s',rs,rows,rfl,hR,eS,eL,hP,jG,hO,kk⟩:=h
 refine⟨_,(z4 (ql (i:=3) vt.nd rfl (Or.inl rfl) (yr (yd (K:=K) rfl) (pv 2) (vx (qv (qz (K:=K) rfl) (pv 1) z3 (fun _ _=>rfl))) (vx (qv (qz (K:=K) rfl) (pv 1) z3 (fun _ _=>rfl)))))
   (z4 (wA (i:=4) (osc:=z5 jZ) (N:=["_law_part","_law_span","_law_events_here","_law_inner","_law_names","_law_due"]) (xs:=["_law_event_here"]) (names:=[]) (qH:=[]) rfl rfl rfl vt.nd ⟨rfl,by decide +kernel,by decide +kernel,by decide +kernel,by decide +kernel,rfl,by decide +kernel,by decide +kernel⟩ rfl rfl (ji (K:=K) rfl (pv 3)) (fun _ _ _=>(jn (i:=0) (show (["_law_event_here"]:List Str).Nodup from by decide +kernel) rfl (.inl (rD rfl)) (.inr (rD rfl)))) (fun _ _ _=>(m7 (qu jo (qv (qz (K:=K) rfl) (pv 0) z3 (fun _ _=>rfl)) z8 (qi _)))) (fun _ _ _=>(qv (qz (K:=K) rfl) (pv 0) z3 (fun _ _=>rfl))))
   (z4 (PS.join (qN (qu jo (qv (qz (K:=K) rfl) (pv 1) z3 (fun _ _=>rfl)) z8 (qi _))
    (z7 (ql (i:=4) vt.nd rfl (Or.inl rfl) (qk yR (qD (z0 z8 z6)) (pv 4)))) qo))
   (z4 (qN (qu (hV (K:=K) rfl hr.units) (yc (osc:=z5 jZ) (N:=["_law_part","_law_span","_law_events_here","_law_inner","_law_names","_law_due"]) (names:=[]) (qH:=[]) rfl rfl rfl ⟨rfl,by decide +kernel,by decide +kernel,by decide +kernel,rfl,rfl,by decide +kernel,by decide +kernel⟩ (ji (K:=K) rfl (qe G_v_parts_of hr rfl T.qA.mg T.qA.fn.kp T.qA.bd .nil qW (z0 (pv 0) z6))) (fun _ _ _=>(qP (K:=K) rfl (pv 0) rfl))) (pv 4) (qi _))
    (z7 (qr gz)) qo)
   (z4 (wA (i:=5) (osc:=z5 jZ) (N:=["_law_part","_law_span","_law_events_here","_law_inner","_law_names","_law_due"]) (xs:=["_law_event_here"]) (names:=[]) (qH:=[]) rfl rfl rfl vt.nd ⟨rfl,by decide +kernel,by decide +kernel,by decide +kernel,by decide +kernel,rfl,by decide +kernel,by decide +kernel⟩ rfl rfl (ji (K:=K) rfl (pv 3)) (fun _ _ _=>(jn (i:=0) (show (["_law_event_here"]:List Str).Nodup from by decide +kernel) rfl (.inl (rD rfl)) (.inr (rD rfl)))) (fun _ _ _=>(m7 (qu (ee (K:=K) rfl) (qv (qz (K:=K) rfl) (pv 0) z3 (fun _ _=>rfl)) (qD (z0 z8 (z0 z8 (z0 z8 (z0 z8 z6))))) rfl))) (fun _ _ _=>(pv 0)))
   (z7 (qr (vB (nZ (K:=K) rfl hr.units) (yc (osc:=z5 jZ) (N:=["_law_part","_law_span","_law_events_here","_law_inner","_law_names","_law_due"]) (names:=[]) (qH:=[]) rfl rfl rfl ⟨rfl,by decide +kernel,by decide +kernel,by decide +kernel,rfl,rfl,by decide +kernel,by decide +kernel⟩ (ji (K:=K) rfl (qe G_v_clauses_of hr rfl T.qT.mg T.qT.fn.kp T.qT.bd .nil qW (z0 (pv 0) z6))) (fun _ _ _=>(qe G_w_clause hr rfl T.vi.mg T.vi.fn.kp T.vi.bd .nil qW (z0 (pv 0) z6)))) (pv 5) (qi _))))))))),?_⟩
 obtain⟨nm,sa,sb,sd⟩:=s'
 have hlen:=hO.len
 have hel:=hO.el
 have hnm:=hO.Wc
 have hcl:=hO.cls
 have Jr:=hO.Jr
 have hdp:=hO.dp
 dsimp only at hnm hcl Jr
 have hPi:=mi (sb - sa) (ml sa hP)
 have hoki:∀e∈(evs.drop sa).take (sb - sa),e.ok:=fun e he=>jG e (List.mem_of_mem_drop (List.mem_of_mem_take he))
 have hil:((evs.drop sa).take (sb - sa)).length≤66:=by rw[List.length_take,List.length_drop];omega
 have hwl:=Paired.length hPi
 walk_at "rd"
 rw[Zj]
 generalize (ws.drop sa).take (sb - sa)=wi at *
 generalize (evs.drop sa).take (sb - sa)=ei at *
 intro li H1 s1 hli e1
 have eS1:=s1 _ _ eS
 walk_at "rd"
 refine mP (xK (qC.of e1)) (XE H) (fun y v=>∀n rs,wm H y (.pt n rs)→v=.str n) (qy (by omega)) ?_ ?_ ?_
 ·intro i y H' Q' hy s' k
  obtain⟨e,hei,hE⟩:=Paired.gk hPi hy
  have hE':=hE.same (s1.trans s')
  rw[si hE] at k
  obtain⟨p,xs,rfl,ep,ex⟩:=hE'.first
  refine⟨_,rfl,p,_,_,_,rfl,rfl,kU.of ep,ex,?_⟩
  walk_at "rd"
  exact k H' (qx.refl _)
 ·intro i y H' Q' hy hp s' k
  obtain⟨e,hei,hE⟩:=Paired.gk hPi hy
  have hE':=hE.same (s1.trans s')
  rw[si hE] at hp
  obtain⟨n',rs',rfl⟩:=wX (of_decide_eq_true hp)
  obtain⟨p,q1,rfl,ep,eq1⟩:=hE'
  obtain⟨p0,q0,hp0,ep0,_⟩:=hE
  cases hp0
  refine⟨_,rfl,p,_,_,_,rfl,rfl,kU.of ep,rfl,?_⟩
  refine k _ _ (qx.refl _) fun n2 rs2 hE2=>?_
  obtain⟨p3,q3,hp3,ep3,_⟩:=hE2
  cases hp3
  rw[ep0] at ep3
  cases ep3
  rfl
 intro D H2 zs s2 hD e2 hz
 have hzs:zs=(ei.filterMap uE).map V.str:=by
  have:=mm (vj (p:=XE H) (p':=iI) (fun a b h=>by rw[si h,Wm]) hPi) (fun e he=>(List.mem_filter.mp he).2) hz
  rw[this,filterMap_filter]
 subst hzs
 clear hz
 have s12:qx H H2:=s1.trans s2
 have eS2:=s12 _ _ eS
 have eli2:=s2 _ _ e1
 have hzl:(ei.filterMap uE).length≤66:=Nat.le_trans (List.length_filterMap_le _ _) hil
 show kY 4 (V.ref D) [some (.ref q),some (.ref pp),some (.ref le),some (.ref li),none,none] _ _
 refine⟨fun σ' H'=>(∃ln,σ'=[some (.ref q),some (.ref pp),some (.ref le),some (.ref li),some (.ref ln),none]∧qx H H'∧H' li=some (.lst wi)∧H' ln=some (.lst (((je (.pt nm rs rows)).map gq).map V.str)))∨False,?_,?_⟩
 ·walk_at "rd"
  refine kD (fun h1=>?_) (fun h1=>?_)
  ·have e3:nm = "whole":=V.str.inj (of_decide_eq_true h1)
   rw[if_pos e3] at hnm
   walk_at "rd"
   intro l3 H3 s3 hl3 e3'
   walk_at "rd"
   refine⟨l3,D,_,_,rfl,rfl,e3',s3 _ _ e2,qy (by simp only[List.length_map,List.length_cons,List.length_nil];omega),?_⟩
   intro l4 H4 s4 hl4 e4
   refine .inl ⟨l4,rfl,(s12.trans s3).trans s4,s4 _ _ (s3 _ _ eli2),?_⟩
   rw[e4,←hnm,List.map_append]
   rfl
  ·have e3:¬nm = "whole":=fun z=>h1 (decide_eq_true (by rw[z]))
   rw[if_neg e3,List.nil_append] at hnm
   exact .inl ⟨D,rfl,s12,eli2,by rw[e2,hnm]⟩
 rintro σ' H3 (⟨ln,rfl,s3,eli,eln⟩ | ⟨⟨⟩⟩)
 clear hnm e2 eS2 eli2 e1 s12 s1 s2 eS1 hD hzl
 have hR3:qF t [] H3 (.pt nm rs rows) (.ref q):=hR.move (Fm.of s3) fun _ z=>.inl z
 walk_at "rd"
 refine⟨[],q,nm,rs,rows,rfl,hR3,hdp,hO.ko,by omega,fun lp H4 wp s4 hlp e4 hPt=>?_⟩
 refine⟨lp,rfl,⟨_,qC.of e4⟩,?_⟩
 have hptl:=hPt.len
 have hp1:(je (.pt nm rs rows)).length≤67:=by
  have:=tf rows
  rw[je,List.length_cons];omega
 have hip:=bz (.pt nm rs rows)
 generalize je (.pt nm rs rows)=prt at *
 refine vO (xK (qC.of e4)) (fun i _ v=>∀r,prt[i]?=some r→v=.str (gq r)) (qy (by omega)) ?_ ?_
 ·intro i y H' Q' hy s' k
  obtain⟨r,hr0,hRw0⟩:=qt.gk hPt hy
  obtain⟨n',rs',rws,rfl⟩:=pB (hip r (List.mem_of_getElem? hr0))
  have hRw2:qF t [] H' (.pt n' rs' rws) y:=hRw0.move (Fm.of s') fun _ z=>.inl z
  unfold qF at hRw2
  obtain⟨q1,dx1,a1,b1,ys1,rfl,_,_,_,ep1,_⟩:=hRw2
  refine⟨_,rfl,_,rY T ep1,?_⟩
  refine k _ _ (qx.refl _) fun r' hr'=>?_
  rw[hr0] at hr'
  cases hr'
  rfl
 intro D5 H5 vs5 s5 hD5 e5 hl5 hp5
 have hvs:vs5=(prt.map gq).map V.str:=by
  apply List.ext_getElem?
  intro i
  rw[List.map_map,List.getElem?_map]
  by_cases hi:i < prt.length
  ·have hi':i < vs5.length:=by omega
   have hiy:i < wp.length:=by omega
   rw[List.getElem?_eq_getElem hi',List.getElem?_eq_getElem hi]
   exact congrArg some (hp5 i _ _ (List.getElem?_eq_getElem hiy) (List.getElem?_eq_getElem hi') _ (List.getElem?_eq_getElem hi))
  ·rw[List.getElem?_eq_none_iff.mpr (by omega),List.getElem?_eq_none_iff.mpr (by omega)]
   rfl
 subst hvs
 clear hp5 hl5 hptl hp1 hPt e4
 have s45:qx H3 H5:=s4.trans s5
 have s35:qx H H5:=s3.trans s45
 have eln5:=s45 _ _ eln
 have eli5:=s45 _ _ eli
 walk_at "rd"
 refine⟨_,_,pf.lst (qC.of e5) (va.strs _),pf.lst (qC.of eln5) (va.strs _),Jr,Jr,?_⟩
 rw[gp,decide_eq_true rfl]
 clear e5 eln eln5 Jr hip s4 s5 s45 s3 eli
 walk_at "rd"
 refine mP (xK (qC.of eli5)) (Jb H) (fun y v=>v=y) (qy (by omega)) ?_ ?_ ?_
 ·intro i y H' Q' hy s' k
  obtain⟨e,hei,hE⟩:=Paired.gk hPi hy
  have hE':=hE.same (s35.trans s')
  rw[ud hE] at k
  obtain⟨p,xs,rfl,ep,ex⟩:=hE'.first
  refine⟨_,rfl,p,_,_,_,rfl,rfl,kU.of ep,ex,?_⟩
  walk_at "rd"
  intro l6 H6 s6 hl6 e6
  refine⟨l6,_,rfl,.inl (qC.of e6),rfl,by decide +kernel,_,rfl,?_⟩
  exact k H6 s6
 ·intro i y H' Q' hy hp s' k
  exact⟨_,rfl,k _ _ (qx.refl _) rfl⟩
 intro D6 H6 zs s6 hD6 e6 hz
 obtain rfl:=fL hz
 have hPd:Paired (wm H) (wi.filter (Jb H)) (ei.filter ie):=vj (fun a b h=>by rw[ud h,Vo]) hPi
 rw[hcl] at hPd
 have s36:qx H H6:=s35.trans s6
 have hR6:qF t [] H6 (.pt nm rs rows) (.ref q):=hR.move (Fm.of s36) fun _ z=>.inl z
 have hokc:∀e∈z9 (xl rows),e.ok:=fun e he=>hoki e (by rw[←hcl] at he;exact(List.mem_filter.mp he).1)
 have hlc:=uf rows
 have hlf:(z9 (xl rows)).length≤66:=by rw[←hcl];exact Nat.le_trans (List.length_filter_le _ _) hil
 clear hz hcl
 show kY 5 (V.ref D6) [some (.ref q),some (.ref pp),some (.ref le),some (.ref li),some (.ref ln),none] _ _
 walk_at "rd"
 refine⟨[],q,nm,rs,rows,rfl,hR6,hdp,hO.ko,by omega,fun lc H7 wc s7 hlc7 e7 hPc=>?_⟩
 refine⟨lc,rfl,⟨_,qC.of e7⟩,?_⟩
 have hcln:=hPc.len
 have hkc:jB (xl rows):=mB hO.ko
 have hcc:=ub rows
 generalize xl rows=cs at *
 refine cC (xK (qC.of e7)) (fun i y H' v=>∀r,cs[i]?=some r→Paired (wm H') [v] (qh r)) (qy (by omega)) ?_ ?_ ?_ ?_
 ·intro i y v Ha Hb sab h r hr0
  exact Paired.imp' (fun _ _ z=>z.same sab) (h r hr0)
 ·intro i y v Ha Da ya za ea h r hr0
  have hh:=h r hr0
  obtain⟨k',l',u',a',n',r',rfl⟩:=hcc r (List.mem_of_getElem? hr0)
  have hk0:=hkc.gk hr0
  rw[kq] at hk0
  rcases hk0 with rfl | rfl | rfl | rfl
  all_goals
   rw[qh] at hh ⊢
   cases hh with
   | cons hx _=>
    obtain⟨px,rfl,ex⟩:=hx
    exact .cons ⟨px,rfl,by rw[qY (xU ex ea (by intro z;cases z))];exact ex⟩ .nil
 ·intro i y H' Q' hy s' k
  obtain⟨r,hr0,hRw0⟩:=qt.gk hPc hy
  obtain⟨k',l',u',a',n',r',rfl⟩:=hcc r (List.mem_of_getElem? hr0)
  have hk0:=hkc.gk hr0
  rw[kq] at hk0
  have hRw2:qF t [] H' (.cl k' l' u' a' n' r') y:=hRw0.move (Fm.of s') fun _ z=>.inl z
  unfold qF at hRw2
  obtain⟨p1,rfl,_,hA⟩:=hRw2
  refine⟨_,rfl,p1,k',l',u',a',n',r',rfl,hA,hk0,fun tp H8 s8 h8 e8=>?_⟩
  refine k _ _ s8 fun r2 hr2=>?_
  rw[hr0] at hr2
  cases hr2
  exact Paired.imp' (fun _ _ z=>z.ev) (Z2 (ms:=[]) hk0 e8)
 intro D8 H8 vs8 s8 hD8 e8 hl8 hp8
 have hPv:Paired (wm H8) vs8 (z9 cs):=bN (by omega) fun i v r h1 h2=>by
  have hiy:i < wc.length:=by have:=(List.getElem?_eq_some_iff.mp h1).1;omega
  exact hp8 i _ v (List.getElem?_eq_getElem hiy) h1 r h2
 have s68:qx H6 H8:=s7.trans s8
 have s08:=s36.trans s68
 refine⟨_,rfl,_,_,pf.lst (qC.of e8) (dy hPv),pf.lst (qC.of (s68 _ _ e6)) (dy (Paired.imp' (fun _ _ z=>z.same s08) hPd)),yV hokc,yV hokc,?_⟩
 rw[show PyData.eqv (.list ((z9 cs).map pK)) (.list ((z9 cs).map pK))=true by rw[PyData.eqv];exact uc _]
 exact kk H8 s08
end
noncomputable def pj (rows:List Rw):List cx:=("whole",0,(z9 rows).length,qS rows) :: pk 0 rows
theorem d8:asc ("whole" : Str):=by unfold asc;decide +kernel
theorem yO:qG ("whole" : Str)=false:=by decide +kernel
mutual
theorem eM:∀(r:Rw),∀x∈je r,xx x≤xx r
 | .lt _ _,x,h=>by rw[je] at h;cases h
 | .cl _ _ _ _ _ _,x,h=>by rw[je] at h;cases h
 | .pt n rs rows,x,h=>by
  rw[je] at h
  (rcases List.mem_cons.mp h with rfl | h)
  ·exact Nat.le_refl _
  ·have:=dE rows x h
   rw[xx];omega
theorem dE:∀(rows:List Rw),∀x∈xm rows,xx x≤qS rows
 | [],x,h=>by rw[xm] at h;cases h
 | r :: rs,x,h=>by
  rw[xm] at h
  rw[qS]
  (rcases List.mem_append.mp h with h | h)
  ·have:=eM r x h;omega
  ·have:=dE rs x h;omega
end
mutual
theorem eD:∀{r:Rw},kq r→∀x∈je r,kq x
 | .lt _ _,_,x,h=>by rw[je] at h;cases h
 | .cl _ _ _ _ _ _,_,x,h=>by rw[je] at h;cases h
 | .pt n rs rows,hk,x,h=>by
  rw[je] at h
  (rcases List.mem_cons.mp h with rfl | h)
  ·exact hk
  ·rw[kq] at hk;exact uH hk x h
theorem uH:∀{rows:List Rw},jB rows→∀x∈xm rows,kq x
 | [],_,x,h=>by rw[xm] at h;cases h
 | r :: rs,hk,x,h=>by
  rw[xm] at h
  rw[jB] at hk
  (rcases List.mem_append.mp h with h | h)
  ·exact eD hk.1 x h
  ·exact uH hk.2 x h
end
structure cw (evs:List Ew) (rows:List Rw):Prop where
 fl:z9 rows=evs
 ko:jB rows
 dp:qS rows≤6
 ev:nM evs
theorem cw.pr {evs:List Ew} {rows:List Rw} (h:cw evs rows):Paired (fun r s=>∃rs rws,r=.pt s.1 rs rws∧ph evs s rs rws∧(s.1 = "whole"∨qG s.1=true)) (je (.pt "whole" [] rows)) (pj rows):=by
 have hel:=h.ev.len
 rw[je]
 refine .cons ⟨[],rows,rfl,⟨h.dp,h.ko,fun e he=>h.ev.ok e (h.fl▸he),by rw[h.fl];exact hel,aF,fun x hx=>(by cases hx),Nat.zero_le _,rfl,oO,d8,hel,.inl ⟨rfl,rfl,h.fl,rfl,by rw[←h.fl]⟩⟩,.inl rfl⟩ ?_
 have key:=aJ rows evs [] [] (by rw[h.fl];simp)
 have gen:∀{ps:List Rw} {ss:List cx},(∀r∈ps,r∈xm rows)→Paired (Qc evs) ps ss→Paired (fun r s=>∃rs rws,r=.pt s.1 rs rws∧ph evs s rs rws∧(s.1 = "whole"∨qG s.1=true)) ps ss:=fun {ps ss} hm hp=>by
  induction hp with
  | nil=>exact .nil
  | cons h1 _ ih=>
   rename_i r s _ _ _
   refine .cons ?_ (ih fun x hx=>hm x (List.mem_cons_of_mem _ hx))
   have hr:=hm r List.mem_cons_self
   obtain⟨rs,rws,rfl,h2,h3,h4⟩:=h1
   have hd:=dE rows _ hr
   have hk:=uH h.ko _ hr
   rw[xx] at hd
   rw[kq] at hk
   have hsub:∀e∈qh (.pt s.1 rs rws),e.ok:=fun e he=>h.ev.ok e (List.mem_of_mem_drop (List.mem_of_mem_take (h3▸he)))
   have h0:(Ew.pt s.1 rs).ok:=hsub _ (by rw[qh];simp)
   have hl:(z9 rws).length + 2≤66:=by
    have e1:=congrArg List.length h3
    rw[List.length_take,List.length_drop,qh] at e1
    simp only[List.length_cons,List.length_append,List.length_nil] at e1
    omega
   have hdp:=h.dp
   have hnw:s.1≠"whole":=fun z=>by
    have:=h0.1
    rw[z,yO] at this
    cases this
   exact⟨rs,rws,rfl,⟨by omega,hk,fun e he=>hsub e (by rw[qh];simp [he]),by omega,qV h0.1,fun x hx=>qV (h0.2.1 x hx),h0.2.2,h4,sN h0,dH h0.1,hel,.inr ⟨hnw,h3⟩⟩,.inr h0.1⟩
 exact gen (fun r hr=>hr) key
noncomputable def oH (t:ja):Sp:=fun vs H Q _=>∃(q le ls lr:Addr) (evs:List Ew) (ws us:List V) (rows:List Rw),vs=[.ref q,.ref le,.ref ls,.ref lr]∧qF t [] H (.pt "whole" [] rows) (.ref q)∧H le=some (.lst ws)∧Paired (wm H) ws evs∧cw evs rows∧H ls=some (.lst us)∧Paired (pd H) us (pj rows)∧H lr=some (.lst ((evs.map Ew.row).map V.str))∧∀H',qx H H'→Q (.bl true) H'
section
variable {P:Program} {w:World} {K:PySem.W.Frag} {mg:Str→Option Value} {base:Heap} {t:ja}
theorem kE:qX ["_law_whole","_law_events_here","_law_spans_here","_law_rows_here","_law_clauses","_law_due","_law_parts","_law_part","_law_span"] ["_law_whole","_law_events_here","_law_spans_here","_law_rows_here"] (z5 xr):=⟨rfl,rfl,rfl,by decide +kernel,rfl,by decide +kernel,by decide +kernel⟩
set_option maxHeartbeats 400000 in
theorem sI (T:Txt K mg t):qJ P w K mg base jO 12 t.g7 t.gE ["_law_whole","_law_events_here","_law_spans_here","_law_rows_here"] (oH t):=by
 have G_w_clause:qJ P w K mg base jO 11 t.wz t.vI ["_law_row_here"] (fE t):=(mr T).mono (by decide)
 have G_w_part_right:qJ P w K mg base jO 11 t.xF t.xP ["_law_part","_law_span","_law_rows_here"] (ae t):=(y9 T).mono (by decide)
 have G_w_within:qJ P w K mg base jO 11 t.yP t.yK ["_law_part","_law_span","_law_events_here"] (Xr t):=(lZ T).mono (by decide)
 have G_v_clauses_of:qJ P w K mg base jO 11 t.jV t.jK ["part"] ((oG t) 7):=(vX T).mono (by decide)
 have G_v_parts_of:qJ P w K mg base jO 11 t.jD t.jM ["part"] ((tQ t) 7):=(vq T).mono (by decide)
 refine T.wM.fn.ok kE (fun vs H Q E h=>(by obtain⟨_,_,_,_,_,_,_,_,rfl,_⟩:=h;rfl)) (fun cdv A outer s H vs Q E hr h=>?_)
 obtain⟨q,le,ls,lr,evs,ws,us,rows,rfl,hR,eL,hP,hW,eU,hU,eR,kk⟩:=h
 refine⟨_,(z4 (ql (i:=4) kE.nd rfl (Or.inl rfl) (qe G_v_clauses_of hr rfl T.qT.mg T.qT.fn.kp T.qT.bd .nil qW (z0 (pv 0) z6)))
   (z4 (wA (i:=5) (osc:=z5 xr) (N:=["_law_whole","_law_events_here","_law_spans_here","_law_rows_here","_law_clauses","_law_due","_law_parts","_law_part","_law_span"]) (xs:=["_law_event_here"]) (names:=[]) (qH:=[]) rfl rfl rfl kE.nd ⟨rfl,by decide +kernel,by decide +kernel,by decide +kernel,by decide +kernel,rfl,by decide +kernel,by decide +kernel⟩ rfl rfl (ji (K:=K) rfl (pv 1)) (fun _ _ _=>(jn (i:=0) (show (["_law_event_here"]:List Str).Nodup from by decide +kernel) rfl (.inl (rD rfl)) (.inr (rD rfl)))) (fun _ _ _=>(m7 (qu (ee (K:=K) rfl) (qv (qz (K:=K) rfl) (pv 0) z3 (fun _ _=>rfl)) (qD (z0 z8 (z0 z8 (z0 z8 (z0 z8 z6))))) rfl))) (fun _ _ _=>(pv 0)))
   (z4 (qN (PW.pt (bP (yz (xV (qU (qL (K:=K) rfl) rfl T.qM PyProof.Rows.boot_isinstance (z0 (pv 4) (z0 (yL rfl T.wU PyProof.Rows.boot_list (v:=.ty "list") rfl) z6))))) (yq (qu (hV (K:=K) rfl hr.units) (yc (osc:=z5 xr) (N:=["_law_whole","_law_events_here","_law_spans_here","_law_rows_here","_law_clauses","_law_due","_law_parts","_law_part","_law_span"]) (names:=[]) (qH:=[]) rfl rfl rfl ⟨rfl,by decide +kernel,by decide +kernel,by decide +kernel,rfl,rfl,by decide +kernel,by decide +kernel⟩ (ji (K:=K) rfl (pv 4)) (fun _ _ _=>(qe G_w_clause hr rfl T.vi.mg T.vi.fn.kp T.vi.bd .nil qW (z0 (pv 0) z6)))) (pv 5) (qi _)))))
    (z7 (qr gz)) qo)
   (z4 (jf (fS PySem.F.plainAttrs_list PySem.F.slot_list_clear PySem.F.type_list_clear gG (pv 4)))
   (z4 (ql (i:=6) kE.nd rfl (Or.inl rfl) (qe G_v_parts_of hr rfl T.qA.mg T.qA.fn.kp T.qA.bd .nil qW (z0 (pv 0) z6)))
   (z4 (qN (PW.pt (bP (yz (xV (qU (qL (K:=K) rfl) rfl T.qM PyProof.Rows.boot_isinstance (z0 (pv 6) (z0 (yL rfl T.wU PyProof.Rows.boot_list (v:=.ty "list") rfl) z6))))) (yq (qu eX (qU (xI (K:=K) rfl) rfl T.bh PySem.boot_len (z0 (pv 6) z6)) (qU (xI (K:=K) rfl) rfl T.bh PySem.boot_len (z0 (pv 2) z6)) (qi _)))))
    (z7 (qr gz)) qo)
   (z4 (kI PassesOwn.never rfl (ZX (K:=K) rfl rfl T.ZE (z0 (pv 6) (z0 (pv 2) z6)) PyProof.Rows.boot_zip) (nQ (K:=K) rfl rfl (gB (jn (i:=7) kE.nd rfl (Or.inl rfl)) (gB (jn (i:=8) kE.nd rfl (Or.inl rfl)) nJ)))
    (z7 (qN (PW.pt (bP (yz (xV (qe G_w_part_right hr rfl T.js.mg T.js.fn.kp T.js.bd .nil qW (z0 (pv 7) (z0 (pv 8) (z0 (pv 3) z6)))))) (yq (yz (xV (qe G_w_within hr rfl T.gS.mg T.gS.fn.kp T.gS.bd .nil qW (z0 (pv 7) (z0 (pv 8) (z0 (pv 1) z6)))))))))
    (z7 (qr gz)) qo)))
   (z4 (jf (fS PySem.F.plainAttrs_list PySem.F.slot_list_clear PySem.F.type_list_clear gG (pv 6)))
   (z7 (qr gz)))))))))),?_⟩
 have hfl:=hW.fl
 have hel:=hW.ev.len
 have hwl:=Paired.length hP
 have hpr:=hW.pr
 have hcl:evs.filter ie=z9 (xl rows):=by rw[yv,hfl]
 have hokc:∀e∈z9 (xl rows),e.ok:=fun e he=>hW.ev.ok e (by rw[←hcl] at he;exact(List.mem_filter.mp he).1)
 have hlc:=uf rows
 have hlf:(z9 (xl rows)).length≤66:=by rw[←hcl];exact Nat.le_trans (List.length_filter_le _ _) hel
 rw[hfl] at hlc
 walk_at "rd"
 refine⟨[],q,_,_,rows,rfl,hR,hW.dp,hW.ko,by rw[hfl];omega,fun lc H1 wc s1 hlc1 e1 hPc=>?_⟩
 have eL1:=s1 _ _ eL
 walk_at "rd"
 refine mP (xK (qC.of eL1)) (Jb H) (fun y v=>v=y) (qy (by omega)) ?_ ?_ ?_
 ·intro i y H' Q' hy s' k
  obtain⟨e,hei,hE⟩:=Paired.gk hP hy
  have hE':=hE.same (s1.trans s')
  rw[ud hE] at k
  obtain⟨p,xs,rfl,ep,ex⟩:=hE'.first
  refine⟨_,rfl,p,_,_,_,rfl,rfl,kU.of ep,ex,?_⟩
  walk_at "rd"
  intro l6 H6 s6 hl6 e6
  refine⟨l6,_,rfl,.inl (qC.of e6),rfl,by decide +kernel,_,rfl,?_⟩
  exact k H6 s6
 ·intro i y H' Q' hy hp s' k
  exact⟨_,rfl,k _ _ (qx.refl _) rfl⟩
 intro D H2 zs s2 hD e2 hz
 obtain rfl:=fL hz
 have hPd:Paired (wm H) (ws.filter (Jb H)) (evs.filter ie):=vj (fun a b h=>by rw[ud h,Vo]) hP
 rw[hcl] at hPd
 have s12:qx H H2:=s1.trans s2
 have e12:=s2 _ _ e1
 have hcln:=hPc.len
 have hkc:jB (xl rows):=mB hW.ko
 have hcc:=ub rows
 clear hz hcl
 show kY 5 (V.ref D) [some (.ref q),some (.ref le),some (.ref ls),some (.ref lr),some (.ref lc),none,none,none,none] _ _
 walk_at "rd"
 generalize xl rows=cs at *
 refine cC (xK (qC.of e12)) (fun i y H' v=>∀r,cs[i]?=some r→Paired (wm H') [v] (qh r)) (qy (by omega)) ?_ ?_ ?_ ?_
 ·intro i y v Ha Hb sab h r hr0
  exact Paired.imp' (fun _ _ z=>z.same sab) (h r hr0)
 ·intro i y v Ha Da ya za ea h r hr0
  have hh:=h r hr0
  obtain⟨k',l',u',a',n',r',rfl⟩:=hcc r (List.mem_of_getElem? hr0)
  have hk0:=hkc.gk hr0
  rw[kq] at hk0
  rcases hk0 with rfl | rfl | rfl | rfl
  all_goals
   rw[qh] at hh ⊢
   cases hh with
   | cons hx _=>
    obtain⟨px,rfl,ex⟩:=hx
    exact .cons ⟨px,rfl,by rw[qY (xU ex ea (by intro z;cases z))];exact ex⟩ .nil
 ·intro i y H' Q' hy s' k
  obtain⟨r,hr0,hRw0⟩:=qt.gk hPc hy
  obtain⟨k',l',u',a',n',r',rfl⟩:=hcc r (List.mem_of_getElem? hr0)
  have hk0:=hkc.gk hr0
  rw[kq] at hk0
  have hRw2:qF t [] H' (.cl k' l' u' a' n' r') y:=hRw0.move (Fm.of (s2.trans s')) fun _ z=>.inl z
  unfold qF at hRw2
  obtain⟨p1,rfl,_,hA⟩:=hRw2
  refine⟨_,rfl,p1,k',l',u',a',n',r',rfl,hA,hk0,fun tp H8 s8 h8 e8=>?_⟩
  refine k _ _ s8 fun r2 hr2=>?_
  rw[hr0] at hr2
  cases hr2
  exact Paired.imp' (fun _ _ z=>z.ev) (Z2 (ms:=[]) hk0 e8)
 intro D8 H8 vs8 s8 hD8 e8 hl8 hp8
 have hPv:Paired (wm H8) vs8 (z9 cs):=bN (by omega) fun i v r h1 h2=>by
  have hiy:i < wc.length:=by have:=(List.getElem?_eq_some_iff.mp h1).1;omega
  exact hp8 i _ v (List.getElem?_eq_getElem hiy) h1 r h2
 have s08:qx H H8:=s12.trans s8
 have e18:=s8 _ _ e12
 refine⟨_,rfl,_,_,pf.lst (qC.of e8) (dy hPv),pf.lst (qC.of (s8 _ _ e2)) (dy (Paired.imp' (fun _ _ z=>z.same s08) hPd)),yV hokc,yV hokc,?_⟩
 rw[show PyData.eqv (.list ((z9 cs).map pK)) (.list ((z9 cs).map pK))=true by rw[PyData.eqv];exact uc _]
 have hlcH:H lc=none:=hlc1
 clear hp8 hl8 hPv hPd e8 e2 hcc hkc hcln hPc hokc hlf hlc e12 s12 s8 s2 s1 e1 eL1 hD hD8
 walk_at "rd"
 refine⟨lc,_,rfl,rfl,e18,?_⟩
 intro H9 k9 e9
 have s9:qx H H9:=k9.put s08 hlcH
 have hR9:qF t [] H9 (.pt "whole" [] rows) (.ref q):=hR.move (Fm.of s9) fun _ z=>.inl z
 clear k9 e9 e18 s08
 walk_at "rd"
 refine⟨[],q,_,_,rows,rfl,hR9,hW.dp,hW.ko,by rw[hfl];omega,fun lp H10 wp s10 hlp e10 hPp=>?_⟩
 have s010:qx H H10:=s9.trans s10
 have eU10:=s010 _ _ eU
 have hwp:wp.length=us.length:=by
  have h1:=hPp.len
  have h2:=Paired.length hU
  have h3:=Paired.length hpr
  omega
 have hlpH:H lp=none:=s9.free hlp
 generalize hprt:je (.pt "whole" [] rows)=prt at *
 walk_at "rd"
 refine⟨lp,_,rfl,.inl (qC.of e10),?_⟩
 rw[hwp]
 walk_at "rd"
 refine⟨ls,_,rfl,.inl (qC.of eU10),?_⟩
 walk_at "rd"
 refine⟨lp,ls,wp,us,rfl,qC.of e10,qC.of eU10,?_⟩
 refine iU (K:=K) (a:=lp) (b:=ls) (xs:=wp) (ys:=us) (fun i σ H'=>(∃(v7 v8:Option V),σ=[some (.ref q),some (.ref le),some (.ref ls),some (.ref lr),some (.ref lc),some (.ref D),some (.ref lp),v7,v8]∧qx H10 H')∨False) hwp (.inl ⟨none,none,rfl,qx.refl _⟩) (fun i σ H' _ q'=>?_) ?_ ?_
 ·obtain⟨_,_,_,z⟩:=q'.resolve_right (fun z=>z)
  exact⟨qC.of (z _ _ e10),qC.of (z _ _ eU10)⟩
 ·intro i x y σ H' tp hx hy q' htp
  obtain⟨v7,v8,rfl,s'⟩:=q'.resolve_right (fun z=>z)
  clear q'
  have s11:qx H10 (upd H' tp (.tup [x,y])):=s'.trans (qx.sT htp)
  have eT:upd H' tp (.tup [x,y]) tp=some (.tup [x,y]):=qg
  generalize upd H' tp (.tup [x,y])=H11 at *
  obtain⟨r,hr0,y0⟩:=qt.gk hPp hx
  obtain⟨sp,hs0,hS⟩:=Paired.gk hU hy
  obtain⟨sp',hs',rs',rws,rfl,hO,_⟩:=Paired.gk hpr hr0
  rw[hs0] at hs'
  cases hs'
  obtain⟨q1,rfl⟩:=fb y0
  obtain⟨p2,rfl,ep2⟩:=hS
  have s011:qx H H11:=s010.trans s11
  refine⟨tp,[_,_],rfl,kU.of eT,rfl,_,[_],rfl,_,[],rfl,rfl,?_⟩
  walk_at "rd"
  refine⟨q1,p2,lr,evs,sp,rs',rws,rfl,y0.move (Fm.of s11) (fun _ z=>.inl z),s011 _ _ ep2,s011 _ _ eR,hO,fun H12 s12=>?_⟩
  have s012:=s011.trans s12
  walk_at "rd"
  refine⟨q1,p2,le,evs,ws,sp,rs',rws,rfl,y0.move (Fm.of (s11.trans s12)) (fun _ z=>.inl z),s012 _ _ ep2,s012 _ _ eL,Paired.imp' (fun _ _ z=>z.same s012) hP,hW.ev.ok,hO,fun H13 s13=>?_⟩
  walk_at "rd"
  exact Or.inl ⟨_,_,rfl,(s11.trans s12).trans s13⟩
 ·intro σ H' q'
  obtain⟨v7,v8,rfl,s'⟩:=q'.resolve_right (fun z=>z)
  have e11:=s' _ _ e10
  walk_at "rd"
  refine⟨lp,_,rfl,rfl,e11,?_⟩
  intro H14 k14 e14
  walk_at "rd"
  exact kk H14 (k14.put (s010.trans s') hlpH)
end
theorem uP {H:Hp} {evs:List Ew} {vs:List V} (hl:vs.length=evs.length) (h:∀(i:Nat) (v:V) (e:Ew),vs[i]?=some v→evs[i]?=some e→v=.str e.row):vs=(evs.map Ew.row).map V.str:=by
 apply List.ext_getElem?
 intro i
 rw[List.map_map,List.getElem?_map]
 by_cases hi:i < evs.length
 ·have hi':i < vs.length:=by omega
  rw[List.getElem?_eq_getElem hi',List.getElem?_eq_getElem hi]
  exact congrArg some (h i _ _ (List.getElem?_eq_getElem hi') (List.getElem?_eq_getElem hi))
 ·rw[List.getElem?_eq_none_iff.mpr (by omega),List.getElem?_eq_none_iff.mpr (by omega)]
  rfl
theorem Jx {x y:V}:∀{vs:List V},vs.length=2→(∀v,vs[0]?=some v→v=x)→(∀v,vs[1]?=some v→v=y)→vs=[x,y]
 | [a,b],_,h0,h1=>by rw[h0 a rfl,h1 b rfl]
 | [],h,_,_=>by cases h
 | [_],h,_,_=>by cases h
 | _ :: _ :: _ :: _,h,_,_=>by simp at h
theorem gH {α β:Type} {F:α→β→Prop}:∀{as:List α} {bs:List β} {i:Nat} {b:β},Paired F as bs→bs[i]?=some b→∃a,as[i]?=some a∧F a b
 | _,_,_,_,.nil,h=>by cases h
 | a :: _,_ :: _,0,_,.cons h _,e=>by cases e;exact⟨a,rfl,h⟩
 | _ :: _,_ :: _,i + 1,_,.cons _ t,e=>gH (i:=i) t e
theorem m6:∀es:List Ew,(es.filterMap uE).Sublist (j0 es)
 | []=>.slnil
 | e :: es=>by
  have ih:=m6 es
  have el:j0 (e :: es)=vJ e ++ j0 es:=by simp [j0]
  rw[el]
  cases e with
  | pt n rs=>exact ih.cons₂ n
  | lt a b=>exact ih
  | dn=>exact ih
  | mu l w a n r=>exact ih.cons l
  | my l w a=>exact ih.cons l
  | bn l w a r=>exact ih.cons l
  | pw l w a r=>exact ih.cons l
noncomputable def wt:Ew→Option Str
 | .mu l _ _ _ _=>some l
 | .my l _ _=>some l
 | .bn l _ _ _=>some l
 | .pw l _ _ _=>some l
 | _=>none
theorem iA:∀{es:List Ew} {x:Str},x∈es.filterMap wt→x∈j0 es
 | [],x,h=>by cases h
 | e :: es,x,h=>by
  have el:j0 (e :: es)=vJ e ++ j0 es:=by simp [j0]
  rw[el]
  obtain⟨e',he',h2⟩:=List.mem_filterMap.mp h
  (rcases List.mem_cons.mp he' with rfl | he')
  ·cases e'<;>first | (cases h2;exact List.mem_append_left _ (by simp [vJ])) | cases h2
  ·exact List.mem_append_right _ (iA (List.mem_filterMap.mpr ⟨e',he',h2⟩))
theorem de:∀{es:List Ew} {x:Str},(j0 es).Nodup→x∈es.filterMap wt→x∉es.filterMap uE
 | [],x,_,h=>by cases h
 | e :: es,x,hn,h=>by
  have el:j0 (e :: es)=vJ e ++ j0 es:=by simp [j0]
  rw[el] at hn
  have h2:=(List.nodup_append.mp hn).2.1
  have hdj:=(List.nodup_append.mp hn).2.2
  intro hp
  obtain⟨e1,he1,q1⟩:=List.mem_filterMap.mp h
  obtain⟨e2,he2,q2⟩:=List.mem_filterMap.mp hp
  rcases List.mem_cons.mp he1 with r1 | r1
  ·rcases List.mem_cons.mp he2 with r2 | r2
   ·rw[r1] at q1
    rw[r2] at q2
    cases e<;>first | (cases q2;done) | (cases q1;done) | skip
   ·have hx:x∈vJ e:=by rw[r1] at q1;cases e<;>first | (cases q1;simp [vJ]) | cases q1
    exact hdj x hx x ((m6 es).subset (List.mem_filterMap.mpr ⟨e2,r2,q2⟩)) rfl
  ·rcases List.mem_cons.mp he2 with r2 | r2
   ·have hx:x∈vJ e:=by rw[r2] at q2;cases e<;>first | (cases q2;simp [vJ]) | cases q2
    exact hdj x hx x (iA (List.mem_filterMap.mpr ⟨e1,r1,q1⟩)) rfl
   ·exact de h2 (List.mem_filterMap.mpr ⟨e1,r1,q1⟩) (List.mem_filterMap.mpr ⟨e2,r2,q2⟩)
theorem lX {evs:List Ew} (jG:∀e∈evs,e.ok):∀x∈evs.filterMap uE,qG x=true:=fun x hx=>by
 obtain⟨e,he,h2⟩:=List.mem_filterMap.mp hx
 have ho:=jG e he
 cases e with
 | pt n rs=>cases h2;exact ho.1
 | _=>cases h2
theorem i3 {evs:List Ew} (jG:∀e∈evs,e.ok):∀x∈evs.filterMap wt,qG x=true:=fun x hx=>by
 obtain⟨e,he,h2⟩:=List.mem_filterMap.mp hx
 have ho:=jG e he
 cases e with
 | mu l w a n r=>cases h2;exact ho.1
 | my l w a=>cases h2;exact ho.1
 | bn l w a r=>cases h2;exact ho.1
 | pw l w a r=>cases h2;exact ho.1
 | _=>cases h2
theorem cw.names {evs:List Ew} {rows:List Rw} (h:cw evs rows):(je (.pt "whole" [] rows)).map gq=("whole" : Str) :: evs.filterMap uE:=by
 rw[je,List.map_cons,←ou,h.fl]
 rfl
theorem cw.nd {evs:List Ew} {rows:List Rw} (h:cw evs rows):((je (.pt "whole" [] rows)).map gq).Nodup:=by
 rw[h.names,List.nodup_cons]
 refine⟨fun hm=>?_,(m6 evs).nodup h.ev.nd⟩
 have:=lX h.ev.ok _ hm
 rw[yO] at this
 cases this
theorem nu {L:List Rw} (hn:(L.map gq).Nodup) {i:Nat} {r:Rw} (hi:L[i]?=some r):∀y∈L.take i,gq y≠gq r:=fun y hy z=>by
 have e:L.map gq=(L.take i).map gq ++ (L.drop i).map gq:=by rw[←List.map_append,List.take_append_drop]
 rw[e] at hn
 have hd:r∈L.drop i:=by
  rw[List.mem_iff_getElem?]
  exact⟨0,by rw[List.getElem?_drop];simpa using hi⟩
 exact(List.nodup_append.mp hn).2.2 _ (List.mem_map_of_mem hy) _ (List.mem_map_of_mem hd) z
theorem nz {L:List Rw} (hn:(L.map gq).Nodup) {i:Nat} {r:Rw} {x:Str} (hi:L[i]?=some r) (hx:gq r=x):L.find? (fun r=>decide (gq r=x))=some r:=by
 subst hx
 exact pY (nu hn hi) hi rfl
theorem dg {rows:List Rw} {new:Rw} (hn:((je (.pt "whole" [] rows)).map gq).Nodup) {i:Nat} {r:Rw} {x:Str} (hi:(je (.pt "whole" [] rows))[i]?=some r) (hx:gq r=x) (hw:x≠"whole"):(je (.pt "whole" [] (rows ++ [new]))).find? (fun r=>decide (gq r=x))=some r:=by
 subst hx
 have ht:=nu hn hi
 rw[je] at hi ht
 rw[je,dI]
 cases i with
 | zero=>cases hi;exact absurd rfl hw
 | succ i=>
  have hi':(xm rows)[i]?=some r:=hi
  have hl:=(List.getElem?_eq_some_iff.mp hi').1
  refine pY (i:=i + 1) (fun y hy=>?_) ?_ rfl
  ·rw[List.take_succ_cons,List.take_append_of_le_length (by omega)] at hy
   (rcases List.mem_cons.mp hy with rfl | hy)
   ·exact fun z=>hw z.symm
   ·exact ht y (by rw[List.take_succ_cons];exact List.mem_cons_of_mem _ hy)
  ·show (xm rows ++ xm [new])[i]?=some r
   rw[List.getElem?_append_left hl]
   exact hi'
theorem find_whole (rows:List Rw):(je (.pt "whole" [] rows)).find? (fun r=>decide (gq r = "whole"))=some (.pt "whole" [] rows):=by
 rw[je]
 exact pY (i:=0) (fun y hy=>by rw[List.take_zero] at hy;cases hy) rfl rfl
theorem iW:∀(a b:List Rw),qS (a ++ b)=max (qS a) (qS b)
 | [],b=>by rw[qS];exact(Nat.max_eq_right (Nat.zero_le _)).symm
 | x :: a,b=>by rw[List.cons_append,qS,qS,iW a b];omega
noncomputable def gD:List V:=[V.str "part",V.str "let",V.str "done"]
theorem wb:mX (.str ("must" : Str)) gD=false∧mX (.str ("may" : Str)) gD=false∧mX (.str ("ban" : Str)) gD=false∧mX (.str ("power" : Str)) gD=false∧mX (.str ("let" : Str)) gD=true∧mX (.str ("part" : Str)) gD=true∧mX (.str ("done" : Str)) gD=true:=by decide +kernel
theorem Wf (e:Ew):mX (.str (kw e)) gD=(wt e).isNone:=by
 cases e with
 | pt n rs=>exact wb.2.2.2.2.2.1
 | lt a b=>exact wb.2.2.2.2.1
 | mu l w a n r=>exact wb.1
 | my l w a=>exact wb.2.1
 | bn l w a r=>exact wb.2.2.1
 | pw l w a r=>exact wb.2.2.2.1
 | dn=>exact wb.2.2.2.2.2.2
theorem wm.Wd {H:Hp} {v:V} {e:Ew} {x:Str} (h:wm H v e) (hx:wt e=some x):∃p xs,v=.ref p∧H p=some (.tup xs)∧f7 xs 1=some (.str x):=by
 cases e with
 | mu l w a n r=>cases hx;obtain⟨p,e,h⟩:=h;exact⟨p,_,e,h,rfl⟩
 | my l w a=>cases hx;obtain⟨p,e,h⟩:=h;exact⟨p,_,e,h,rfl⟩
 | bn l w a r=>cases hx;obtain⟨p,e,h⟩:=h;exact⟨p,_,e,h,rfl⟩
 | pw l w a r=>cases hx;obtain⟨p,e,h⟩:=h;exact⟨p,_,e,h,rfl⟩
 | _=>cases hx
theorem ma:qG ("part" : Str)=false∧¬("part" : Str) = "whole":=by decide +kernel
theorem bA {evs:List Ew} {rows:List Rw} (h:cw evs rows) {x:Str} (h1:x≠"whole") (h2:x∉evs.filterMap uE):(je (.pt "whole" [] rows)).find? (fun r=>decide (gq r=x))=none:=nq fun y hy z=>by
 have hm:=List.mem_map_of_mem (f:=gq) hy
 rw[h.names,z] at hm
 rcases List.mem_cons.mp hm with e | e
 ·exact h1 e
 ·exact h2 e
structure Jh (K:PySem.W.Frag) (t:ja) (ns:List Int) (H:Hp) (c:Int) (a D p le lr ls pw pq:Addr) (ps as:List Str) (x9:List (Str × Str)) (ws us:List V) (evs:List Ew) (rows:List Rw):Prop where
 hS:qC K H a (ns.map V.int)
 hN:qC K H D ((NN c).map V.str)
 hH:iw H p ps as x9
 eL:H le=some (.lst ws)
 hP:Paired (wm H) ws evs
 hW:cw evs rows
 eU:H ls=some (.lst us)
 hU:Paired (pd H) us (pj rows)
 eR:H lr=some (.lst ((evs.map Ew.row).map V.str))
 y0:qF t [] H (.pt "whole" [] rows) (.ref pw)
 hA:bC t H pq ps as x9 (.pt "whole" [] rows)
 Zp:ka c 103∉j0 evs
theorem Jh.same {K:PySem.W.Frag} {t:ja} {ns:List Int} {H H':Hp} {c:Int} {a D p le lr ls pw pq:Addr} {ps as:List Str} {x9:List (Str × Str)} {ws us:List V} {evs:List Ew} {rows:List Rw} (h:Jh K t ns H c a D p le lr ls pw pq ps as x9 ws us evs rows) (s:qx H H'):Jh K t ns H' c a D p le lr ls pw pq ps as x9 ws us evs rows:=
 ⟨s.seq h.hS,s.seq h.hN,h.hH.same s,s _ _ h.eL,Paired.imp' (fun _ _ z=>z.same s) h.hP,h.hW,s _ _ h.eU,Paired.imp' (fun _ _ z=>z.same s) h.hU,s _ _ h.eR,h.y0.move (Fm.of s) (fun _ z=>.inl z),h.hA.same s,h.Zp⟩
theorem Jh.right {K:PySem.W.Frag} {t:ja} {ns:List Int} {H:Hp} {c:Int} {a D p le lr ls pw pq:Addr} {ps as:List Str} {x9:List (Str × Str)} {ws us:List V} {evs:List Ew} {rows:List Rw} (h:Jh K t ns H c a D p le lr ls pw pq ps as x9 ws us evs rows) {Q:VK} {E:XK} (k0:∀H',qx H H'→Q (.bl true) H'):oH t [.ref pw,.ref le,.ref ls,.ref lr] H Q E:=⟨pw,le,ls,lr,evs,ws,us,rows,rfl,h.y0,h.eL,h.hP,h.hW,h.eU,h.hU,h.eR,k0⟩
noncomputable def Vr (K:PySem.W.Frag) (t:ja) (ns:List Int) (σ:L2.St) (H:Hp):Prop:=∃(c:Int) (a D p le lr ls pw pq:Addr) (ps as:List Str) (x9:List (Str × Str)) (ws us:List V) (evs:List Ew) (rows:List Rw) (v8 v9 v10 v11 v12 v13 v14:Option V),σ=[some (.ref a),some (.ref D),some (.ref p),some (.ref le),some (.ref lr),some (.ref ls),some (.ref pw),some (.ref pq),v8,v9,v10,v11,v12,v13,v14]∧Jh K t ns H c a D p le lr ls pw pq ps as x9 ws us evs rows
noncomputable def ai (K:PySem.W.Frag):Sp:=fun vs H Q _=>∃(a:Addr) (ns:List Int),vs=[.ref a]∧qC K H a (ns.map V.int)∧ns.length≤63∧∀H',Q (.bl true) H'
section
variable {P:Program} {w:World} {K:PySem.W.Frag} {mg:Str→Option Value} {base:Heap} {t:ja}
seal oH NN
theorem jW:qX ["_law_script","_law_names","_law_header_here","_law_events_here","_law_rows_here","_law_spans_here","_law_whole","_law_pact","_law_beside","_law_span","_law_part","_law_twice","_law_labels","_law_event_here","_law_name_here"] ["_law_script"] (z5 kh):=⟨rfl,rfl,rfl,by decide +kernel,rfl,by decide +kernel,by decide +kernel⟩
set_option maxHeartbeats 20000000 in
theorem en (T:Txt K mg t):qJ P w K mg base jO 13 t.pV t.mF ["_law_script"] (ai K):=by
 have G_w_cell_at:qJ P w K mg base jO 12 t.vm t.vp ["_law_script","_law_k"] (tZ K):=(fg T).mono (by decide)
 have G_w_events:qJ P w K mg base jO 12 t.yY t.yZ ["_law_names","_law_script"] (lU K):=(lz T).mono (by decide)
 have G_w_header:qJ P w K mg base jO 12 t.yG t.yQ ["_law_names","_law_cell"] (au K):=(lx T).mono (by decide)
 have G_w_mix:qJ P w K mg base jO 12 t.yH t.yJ ["_law_cell","_law_k"] lR:=(fh T).mono (by decide)
 have G_w_name:qJ P w K mg base jO 12 t.pW t.pX ["_law_cell","_law_k"] nY:=(oa T).mono (by decide)
 have G_w_part_right:qJ P w K mg base jO 12 t.xF t.xP ["_law_part","_law_span","_law_rows_here"] (ae t):=(y9 T).mono (by decide)
 have G_w_right:qJ P w K mg base jO 12 t.g7 t.gE ["_law_whole","_law_events_here","_law_spans_here","_law_rows_here"] (oH t):=(sI T).mono (by decide)
 have G_w_row:qJ P w K mg base jO 12 t.mU t.mD ["_law_event_here"] Qk:=(eo T).mono (by decide)
 have G_w_spans:qJ P w K mg base jO 12 t.g8 t.gA ["_law_events_here"] nG:=(tj T).mono (by decide)
 have G_w_whole_part:qJ P w K mg base jO 12 t.kK t.kJ ["_law_events_here"] (Xu t):=(mW T).mono (by decide)
 have G_v_clauses_of:qJ P w K mg base jO 12 t.jV t.jK ["part"] ((oG t) 7):=(vX T).mono (by decide)
 have G_v_part_named:qJ P w K mg base jO 12 t.kX t.kQ ["pact","name"] (Xc t):=(mV T).mono (by decide)
 have G_v_parts_of:qJ P w K mg base jO 12 t.jD t.jM ["part"] ((tQ t) 7):=(vq T).mono (by decide)
 have M_Pact_init:qJ P w K mg base jO 11 t.vf t.wZ ["self","parties","acts","rooms","whole"] (Qj K t):=(uV T).mono (by decide)
 have M_Part_init:qJ P w K mg base jO 11 t.ke t.vh ["self","name","rooms","rows"] (Q9 K t):=(fj T).mono (by decide)
 refine T.aH.fn.ok jW (fun vs H Q E h=>(by obtain⟨_,_,rfl,_⟩:=h;rfl)) (fun cdv A outer s H vs Q E hr h=>?_)
 obtain⟨a,ns,rfl,hS,hl,k⟩:=h
 obtain⟨M,hM⟩:∃M:L2.St→Hp→Prop,M=Vr K t ns:=⟨_,rfl⟩
 have mM:∀{σ:L2.St} {H:Hp},Vr K t ns σ H→M σ H:=fun h=>by rw[hM];exact h
 refine⟨_,(z4 (yS (i:=1) (osc:=z5 kh) (N:=["_law_script","_law_names","_law_header_here","_law_events_here","_law_rows_here","_law_spans_here","_law_whole","_law_pact","_law_beside","_law_span","_law_part","_law_twice","_law_labels","_law_event_here","_law_name_here"]) (names:=["_law_script"]) (qH:=[0]) rfl rfl rfl jW.nd ⟨rfl,by decide +kernel,by decide +kernel,by decide +kernel,rfl,rfl,by decide +kernel,by decide +kernel⟩ rfl rfl (kO rfl T.we (z0 z3 z6)) (fun _ _ _=>(qe G_w_name hr rfl T.d7.mg T.d7.fn.kp T.d7.bd .nil qW (z0 (qe G_w_mix hr rfl T.jT.mg T.jT.fn.kp T.jT.bd .nil qW (z0 (qe G_w_cell_at hr rfl T.jg.mg T.jg.fn.kp T.jg.bd .nil qW (z0 (pv 1) (z0 z3 z6))) (z0 z3 z6))) (z0 (pv 0) z6)))))
   (z4 (ql (i:=2) jW.nd rfl (Or.inl rfl) (qe G_w_header hr rfl T.gR.mg T.gR.fn.kp T.gR.bd .nil qW (z0 (pv 1) (z0 (qe G_w_mix hr rfl T.jT.mg T.jT.fn.kp T.jT.bd .nil qW (z0 (qe G_w_cell_at hr rfl T.jg.mg T.jg.fn.kp T.jg.bd .nil qW (z0 (pv 0) (z0 z3 z6))) (z0 z3 z6))) z6))))
   (z4 (ql (i:=3) jW.nd rfl (Or.inl rfl) (qe G_w_events hr rfl T.gU.mg T.gU.fn.kp T.gU.bd .nil qW (z0 (pv 1) (z0 (pv 0) z6))))
   (z4 (yS (i:=4) (osc:=z5 kh) (N:=["_law_script","_law_names","_law_header_here","_law_events_here","_law_rows_here","_law_spans_here","_law_whole","_law_pact","_law_beside","_law_span","_law_part","_law_twice","_law_labels","_law_event_here","_law_name_here"]) (names:=[]) (qH:=[]) rfl rfl rfl jW.nd ⟨rfl,by decide +kernel,by decide +kernel,by decide +kernel,rfl,rfl,by decide +kernel,by decide +kernel⟩ rfl rfl (ji (K:=K) rfl (pv 3)) (fun _ _ _=>(qe G_w_row hr rfl T.sq.mg T.sq.fn.kp T.sq.bd .nil qW (z0 (pv 0) z6))))
   (z4 (ql (i:=5) jW.nd rfl (Or.inl rfl) (qe G_w_spans hr rfl T.fi.mg T.fi.fn.kp T.fi.bd .nil qW (z0 (pv 3) z6)))
   (z4 (ql (i:=6) jW.nd rfl (Or.inl rfl) (qe G_w_whole_part hr rfl T.kM.mg T.kM.fn.kp T.kM.bd .nil qW (z0 (pv 3) z6)))
   (z4 (ql (i:=7) jW.nd rfl (Or.inl rfl) (x8 T.uQ M_Pact_init hr rfl T.sW T.gT.bd .nil qW (z0 (qv (qz (K:=K) rfl) (pv 2) z3 (fun _ _=>rfl)) (z0 (qv (qz (K:=K) rfl) (pv 2) z3 (fun _ _=>rfl)) (z0 (qv (qz (K:=K) rfl) (pv 2) z3 (fun _ _=>rfl)) (z0 (pv 6) z6))))))
   (hG (D0:={ nx:=fun _ H0=>Q .non H0,rt:=Q }) (M:=M) (z4 (qN (yz (xV (qe G_w_right hr rfl T.wM.mg T.wM.fn.kp T.wM.bd .nil qW (z0 (pv 6) (z0 (pv 3) (z0 (pv 5) (z0 (pv 4) z6)))))))
    (z7 (qr gz)) qo)
   (hG (D0:={ nx:=fun _ H0=>Q .non H0,rt:=Q }) (M:=M) (z4 (ql (i:=8) jW.nd rfl (Or.inl rfl) (x8 T.yM M_Part_init hr rfl T.wN T.kl.bd .nil qW (z0 z8 (z0 (qD z6) (z0 (qD (z0 (x8 T.yM M_Part_init hr rfl T.wN T.kl.bd .nil qW (z0 (qv (qQ (K:=K) rfl) (pv 1) z3 (fun _ _=>rfl)) (z0 (qD z6) (z0 (qD z6) z6)))) z6)) z6)))))
   (z4 (qN (PW.pt (bP (qu (hV (K:=K) rfl hr.units) (yc (osc:=z5 kh) (N:=["_law_script","_law_names","_law_header_here","_law_events_here","_law_rows_here","_law_spans_here","_law_whole","_law_pact","_law_beside","_law_span","_law_part","_law_twice","_law_labels","_law_event_here","_law_name_here"]) (names:=[]) (qH:=[]) rfl rfl rfl ⟨rfl,by decide +kernel,by decide +kernel,by decide +kernel,rfl,rfl,by decide +kernel,by decide +kernel⟩ (ji (K:=K) rfl (qe G_v_parts_of hr rfl T.qA.mg T.qA.fn.kp T.qA.bd .nil qW (z0 (pv 8) z6))) (fun _ _ _=>(qP (K:=K) rfl (pv 0) rfl))) (qD (z0 z8 (z0 (qv (qQ (K:=K) rfl) (pv 1) z3 (fun _ _=>rfl)) z6))) (qi _)) (yq (qu (hV (K:=K) rfl hr.units) (qe G_v_clauses_of hr rfl T.qT.mg T.qT.fn.kp T.qT.bd .nil qW (z0 (pv 8) z6)) (qD z6) (qi _)))))
    (z7 (qr gz)) qo)
   (hG (D0:={ nx:=fun _ H0=>Q .non H0,rt:=Q }) (M:=M) (z4 (kI PassesOwn.never rfl (ji (K:=K) rfl (pv 5)) (jn (i:=9) jW.nd rfl (Or.inl rfl))
    (z4 (ql (i:=10) jW.nd rfl (Or.inl rfl) (qe G_v_part_named hr rfl T.jl.mg T.jl.fn.kp T.jl.bd .nil qW (z0 (pv 7) (z0 (qv (qz (K:=K) rfl) (pv 9) z3 (fun _ _=>rfl)) z6))))
   (z7 (qN (PW.pt (bP (qu eQ (pv 10) uG (qi _)) (yq (yz (xV (qe G_w_part_right hr rfl T.js.mg T.js.fn.kp T.js.bd .nil qW (z0 (pv 10) (z0 (pv 9) (z0 (pv 4) z6)))))))))
    (z7 (qr gz)) qo))))
   (hG (D0:={ nx:=fun _ H0=>Q .non H0,rt:=Q }) (M:=M) (z4 (ql (i:=9) jW.nd rfl (Or.inl rfl) (qv (qQ (K:=K) rfl) (pv 5) (qk jz (qe G_w_cell_at hr rfl T.jg.mg T.jg.fn.kp T.jg.bd .nil qW (z0 (pv 0) (z0 z3 z6))) (qU (xI (K:=K) rfl) rfl T.bh PySem.boot_len (z0 (pv 5) z6))) (fun _ _=>rfl)))
   (z4 (ql (i:=11) jW.nd rfl (Or.inl rfl) (x8 T.yM M_Part_init hr rfl T.wN T.kl.bd .nil qW (z0 z8 (z0 (qD z6) (z0 (qk yR (qP (K:=K) rfl (pv 6) rfl) (qD (z0 (x8 T.yM M_Part_init hr rfl T.wN T.kl.bd .nil qW (z0 (qv (qz (K:=K) rfl) (pv 9) z3 (fun _ _=>rfl)) (z0 (qD (z0 (qv (qQ (K:=K) rfl) (pv 1) z3 (fun _ _=>rfl)) z6)) (z0 (qD z6) z6)))) z6))) z6)))))
   (z4 (ql (i:=10) jW.nd rfl (Or.inl rfl) (qe G_v_part_named hr rfl T.jl.mg T.jl.fn.kp T.jl.bd .nil qW (z0 (x8 T.uQ M_Pact_init hr rfl T.sW T.gT.bd .nil qW (z0 (qv (qz (K:=K) rfl) (pv 2) z3 (fun _ _=>rfl)) (z0 (qv (qz (K:=K) rfl) (pv 2) z3 (fun _ _=>rfl)) (z0 (qv (qz (K:=K) rfl) (pv 2) z3 (fun _ _=>rfl)) (z0 (pv 11) z6))))) (z0 (qv (qz (K:=K) rfl) (pv 9) z3 (fun _ _=>rfl)) z6))))
   (z4 (qN (PW.pt (bP (qu eQ (pv 10) uG (qi _)) (yq (PW.pt (dA (qu eX (qv (qz (K:=K) rfl) (pv 9) z3 (fun _ _=>rfl)) z8 (qi _)) (ff (yz (xV (qe G_w_part_right hr rfl T.js.mg T.js.fn.kp T.js.bd .nil qW (z0 (pv 10) (z0 (pv 9) (z0 (pv 4) z6))))))))))))
    (z7 (qr gz)) qo)
   (hG (D0:={ nx:=fun _ H0=>Q .non H0,rt:=Q }) (M:=M) (z4 (ql (i:=12) jW.nd rfl (Or.inl rfl) (qD z6) vw)
   (z4 (kI PassesOwn.never rfl (ji (K:=K) rfl (pv 3)) (jn (i:=13) jW.nd rfl (Or.inl rfl))
    (z7 (PS.join (qN (qu (oZ (K:=K) rfl) (qv (qz (K:=K) rfl) (pv 13) z3 (fun _ _=>rfl)) (qD (z0 z8 (z0 z8 (z0 z8 z6)))) rfl)
    (z7 (jf (kZ PySem.F.plainAttrs_list PySem.F.slot_list_append PySem.F.type_list_append j4 (pv 12) (z0 (qv (qz (K:=K) rfl) (pv 13) z3 (fun _ _=>rfl)) z6)))) qo))))
   (z4 (kI PassesOwn.never rfl (ji (K:=K) rfl (qk yR (qD (z0 z8 (z0 (qv (qQ (K:=K) rfl) (pv 1) z3 (fun _ _=>rfl)) z6))) (yr (yd (K:=K) rfl) (pv 12) nX (vx z3)))) (jn (i:=14) jW.nd rfl (Or.inl rfl))
    (z7 (qN (qu ZQ (qe G_v_part_named hr rfl T.jl.mg T.jl.fn.kp T.jl.bd .nil qW (z0 (pv 7) (z0 (pv 14) z6))) uG (qi _))
    (z7 (qr gz)) qo)))
   (hG (D0:={ nx:=fun _ H0=>Q .non H0,rt:=Q }) (M:=M) (z7 (qr (qe G_w_right hr rfl T.wM.mg T.wM.fn.kp T.wM.bd .nil qW (z0 (pv 6) (z0 (pv 3) (z0 (pv 5) (z0 (pv 4) z6))))))) ?c18)))) ?c15))))) ?c11)) ?c10))) ?c8)) ?c7)))))))),?_⟩
 case c18=>
  intro σ H1 hm
  rw[hM] at hm
  obtain⟨c,a,D,p,le,lr,ls,pw,pq,ps,as,x9,ws,us,evs,rows,v8,v9,v10,v11,v12,v13,v14,rfl,hw⟩:=hm
  walk_at "rd"
  show oH t [.ref pw,.ref le,.ref ls,.ref lr] H1 _ _
  refine hw.right fun H2 s2=>?_
  exact k H2
 case c15=>
  intro σ H13 hm
  rw[hM] at hm
  obtain⟨c,a,D,p,le,lr,ls,pw,pq,ps,as,x9,ws,us,evs,rows,v8,v9,v10,v11,v12,v13,v14,rfl,hq⟩:=hm
  have hd:=hq.hW.dp
  have hk:=hq.hW.ko
  have hfl:=hq.hW.fl
  have he:=hq.hW.ev
  have hel:=he.len
  have hN:=gw c
  have g0:(NN c).getD (0:Int).toNat (Str.ofString "")=ka c 0:=ve c (i:=0) (by decide)
  have g103:(NN c).getD (103:Int).toNat (Str.ofString "")=ka c 103:=ve c (i:=103) (by decide)
  have hwl:=Paired.length hq.hP
  walk_at "rd"
  intro ll H24 s24 hll e24
  have t24:qx H13 H24:=s24
  have hllH:H13 ll=none:=hll
  have eL13:=hq.eL
  have eL24:=t24 _ _ eL13
  have hP13:Paired (wm H13) ws evs:=hq.hP
  have hD13:=hq.hN
  show kY 12 (V.ref ll) [some (.ref a),some (.ref D),some (.ref p),some (.ref le),some (.ref lr),some (.ref ls),some (.ref pw),some (.ref pq),v8,v9,v10,v11,v12,v13,v14] _ _
  walk_at "rd"
  refine yg (K:=K) (a:=le) (xs:=ws) (fun i σ H'=>(∃(u13:Option V),σ=[some (.ref a),some (.ref D),some (.ref p),some (.ref le),some (.ref lr),some (.ref ls),some (.ref pw),some (.ref pq),v8,v9,v10,v11,some (.ref ll),u13,v14]∧qx H13 H'∧H' ll=some (.lst (((evs.take i).filterMap wt).map V.str)))∨False) ?_ ?_ ?_ ?_
  ·exact .inl ⟨v13,rfl,t24,e24⟩
  ·intro i σ H' _ q
   obtain⟨_,_,z,_⟩:=q.resolve_right (fun z=>z)
   exact qC.of (z _ _ eL13)
  ·intro i y σ H25 hi q
   obtain⟨u13,rfl,s25,e25⟩:=q.resolve_right (fun z=>z)
   clear q
   obtain⟨e,hei,hE0⟩:=Paired.gk hP13 hi
   have hE:=hE0.same s25
   have fY:(evs.take (i + 1)).filterMap wt=(evs.take i).filterMap wt ++ (wt e).toList:=by
    rw[take_snoc hei,List.filterMap_append,List.filterMap_cons]
    cases wt e<;>rfl
   have hll2:((evs.take i).filterMap wt).length≤66:=by
    have:=List.length_filterMap_le wt (evs.take i)
    rw[List.length_take] at this
    omega
   obtain⟨p7,xs,hy,ep,ex⟩:=hE.first
   subst hy
   have hk3:mX (V.str (kw e)) [V.str (Str.ofString "part"),V.str (Str.ofString "let"),V.str (Str.ofString "done")]=(wt e).isNone:=Wf e
   refine⟨fun σ' H'=>(σ'=[some (.ref a),some (.ref D),some (.ref p),some (.ref le),some (.ref lr),some (.ref ls),some (.ref pw),some (.ref pq),v8,v9,v10,v11,some (.ref ll),some (.ref p7),v14]∧qx H13 H'∧H' ll=some (.lst (((evs.take (i + 1)).filterMap wt).map V.str)))∨False,?_,?_⟩
   ·walk_at "rd"
    refine⟨p7,_,_,_,rfl,rfl,kU.of ep,ex,?_⟩
    walk_at "rd"
    intro l8 H26 s26 hl8 e26
    refine⟨l8,_,rfl,.inl (qC.of e26),rfl,by decide +kernel,_,rfl,?_⟩
    have s1326:qx H13 H26:=s25.trans s26
    refine kD (fun h=>?_) (fun h=>?_)
    ·have hs:(wt e).isNone=false:=by
      rw[←hk3]
      simpa using h
     obtain⟨x,hx⟩:∃x,wt e=some x:=by
      cases q:wt e with
      | none=>rw[q] at hs;cases hs
      | some x=>exact⟨x,rfl⟩
     obtain⟨p9,xs9,hp9,ep9,ex9⟩:=(hE.same s26).Wd hx
     cases hp9
     walk_at "rd"
     refine⟨p7,_,_,_,rfl,rfl,kU.of ep9,ex9,?_⟩
     refine⟨ll,_,_,rfl,rfl,s26 _ _ e25,qy (by rw[List.length_map];omega),?_⟩
     intro H27 k27 e27
     refine .inl ⟨rfl,k27.put s1326 hllH,?_⟩
     rw[e27,fY,hx,List.map_append]
     rfl
    ·have hs:(wt e).isNone=true:=by
      rw[←hk3]
      simpa using h
     have hx:wt e=none:=Option.isNone_iff_eq_none.mp hs
     refine .inl ⟨rfl,s1326,?_⟩
     rw[fY,hx]
     simpa using s26 _ _ e25
   ·rintro σ' H26 (⟨rfl,s26,e26⟩ | ⟨⟨⟩⟩)
    exact .inl ⟨_,rfl,s26,e26⟩
  ·intro σ H25 q
   obtain⟨u13,rfl,s25,e25⟩:=q.resolve_right (fun z=>z)
   clear q
   rw[hwl,List.take_length] at e25
   have hD25:=s25.seq hD13
   have hlb:(evs.filterMap wt).length≤66:=Nat.le_trans (List.length_filterMap_le _ _) hel
   have hlp:=fun x hx=>de (x:=x) he.nd hx
   have hln:=i3 he.ok
   have hbad:∀x∈([("part" : Str),ka c 103] ++ (evs.filterMap wt).take 1),(je (.pt "whole" [] rows)).find? (fun r=>decide (gq r=x))=none:=fun x hx=>by
    have nw:∀{y:Str},qG y=true→y≠"whole":=fun {y} hy z=>by rw[z,yO] at hy;cases hy
    (rcases List.mem_append.mp hx with hx | hx)
    ·simp only[List.mem_cons,List.not_mem_nil,or_false] at hx
     rcases hx with rfl | rfl
     ·exact bA hq.hW ma.2 fun z=>by
       have:=lX he.ok _ z
       rw[ma.1] at this
       cases this
     ·exact bA hq.hW (nw (md c)) fun z=>hq.Zp ((m6 evs).subset z)
    ·have hx':=List.mem_of_mem_take hx
     exact bA hq.hW (nw (hln x hx')) (hlp x hx')
   generalize evs.filterMap wt=lb at *
   clear hlp hln
   walk_at "rd"
   rw[g103]
   intro l9 H26 s26 hl9 e26
   have e2526:=s26 _ _ e25
   walk_at "rd"
   have hcut:wR (lb.map V.str) none (some 1)=(lb.take 1).map V.str:=rV V.str lb 1
   rw[hcut]
   intro l10 H27 s27 hl10 e27
   refine⟨l9,l10,_,_,rfl,rfl,s27 _ _ e26,e27,qy (by rw[List.length_map,List.length_take];simp only[List.length_cons,List.length_nil];omega),?_⟩
   intro l11 H28 s28 hl11 e28
   have e28':H28 l11=some (.lst (([("part" : Str),ka c 103] ++ (lb.take 1)).map V.str)):=by rw[e28,List.map_append];rfl
   have t28:qx H13 H28:=((s25.trans s26).trans s27).trans s28
   generalize ([("part" : Str),ka c 103] ++ (lb.take 1))=nl at *
   clear e28 e27 e26 e2526 e25 s25 s26 s27 s28 hcut
   refine⟨l11,rfl,⟨_,qC.of e28'⟩,?_⟩
   refine yg (K:=K) (a:=l11) (xs:=nl.map V.str) (fun i σ H'=>(∃(u13 u14:Option V),σ=[some (.ref a),some (.ref D),some (.ref p),some (.ref le),some (.ref lr),some (.ref ls),some (.ref pw),some (.ref pq),v8,v9,v10,v11,some (.ref ll),u13,u14]∧qx H28 H')∨False) (.inl ⟨_,_,rfl,qx.refl _⟩) ?_ ?_ ?_
   ·intro i σ H' _ q
    obtain⟨_,_,_,z⟩:=q.resolve_right (fun z=>z)
    exact qC.of (z _ _ e28')
   ·intro i y σ H29 hi q
    obtain⟨w13,w14,rfl,s29⟩:=q.resolve_right (fun z=>z)
    clear q
    obtain⟨x,hx,rfl⟩:=List.mem_map.mp (List.mem_of_getElem? hi)
    have hno:=hbad x hx
    walk_at "rd"
    refine⟨pq,ps,as,x9,_,_,rows,x,rfl,hq.hA.same (t28.trans s29),hd,hk,by rw[hfl];omega,fun _ Hn sn=>?_,fun q2 r2 Hn sn hf2 _=>?_⟩
    ·walk_at "rd"
     exact .inl ⟨_,_,rfl,s29.trans sn⟩
    ·rw[hno] at hf2
     cases hf2
   ·intro σ H29 q
    obtain⟨w13,w14,rfl,s29⟩:=q.resolve_right (fun z=>z)
    walk_at "rd"
    exact mM ⟨c,a,D,p,le,lr,ls,pw,pq,ps,as,x9,ws,us,evs,rows,_,_,_,_,_,_,_,rfl,hq.same (t28.trans s29)⟩
 case c11=>
  intro σ H13 hm
  rw[hM] at hm
  obtain⟨c,a,D,p,le,lr,ls,pw,pq,ps,as,x9,ws,us,evs,rows,v8,v9,v10,v11,v12,v13,v14,rfl,hq⟩:=hm
  have hd:=hq.hW.dp
  have hk:=hq.hW.ko
  have hfl:=hq.hW.fl
  have he:=hq.hW.ev
  have hel:=he.len
  have hN:=gw c
  have g0:(NN c).getD (0:Int).toNat (Str.ofString "")=ka c 0:=ve c (i:=0) (by decide)
  have g103:(NN c).getD (103:Int).toNat (Str.ofString "")=ka c 103:=ve c (i:=103) (by decide)
  have hS13:=hq.hS
  have eU13:=hq.eU
  have hU6:=hq.hU
  have eR6:=hq.eR
  have hA6:=hq.hN
  have y0:=hq.y0
  have hpr:=hq.hW.pr
  have hnd:=hq.hW.nd
  obtain⟨lp,la,lr0,vr,zh,zlp,zla,zlr,hR2⟩:=id hq.hH
  have hulp:0 < us.length:=by rw[Paired.length hU6];simp [pj]
  walk_at "rd"
  refine⟨a,0,ns,rfl,hS13,by decide,?_⟩
  generalize vK ns 0=cn
  walk_at "rd"
  refine⟨ls,_,rfl,.inl (qC.of eU13),?_⟩
  refine⟨_,_,rfl,rfl,(show (0:Int) < (us.length:Int) by omega),?_⟩
  obtain⟨vsp,hvm,hvat⟩:=aO (xs:=us) (m:=(us.length:Int)) cn rfl hulp
  refine⟨ls,_,_,_,rfl,rfl,qC.of eU13,hvat,?_⟩
  obtain⟨j,hj⟩:=List.mem_iff_getElem?.mp hvm
  obtain⟨sp,hs0,p3,rfl,ep3⟩:=Paired.gk hU6 hj
  obtain⟨r,hri,rs',rws,rfl,hO,_⟩:=gH hpr hs0
  obtain⟨qw,dxw,aw,bw,yw,hqw,_,_,_,epw,eaw,ebw,hRs⟩:∃q dx a b ys,V.ref pw=.ref q∧q∉([]:List Addr)∧a∉([]:List Addr)∧b∉([]:List Addr)∧H13 q=some (.ins t.qa dx (sv "whole" a b))∧H13 a=some (.lst (([]:List Str).map V.str))∧H13 b=some (.lst ys)∧qt t [] H13 rows ys:=by
   have z:=y0
   unfold qF at z
   exact z
  cases hqw
  have hyl:=hRs.len
  have hrl:=kg rows
  rw[hfl] at hrl
  show kY 9 (V.ref p3) [some (.ref a),some (.ref D),some (.ref p),some (.ref le),some (.ref lr),some (.ref ls),some (.ref pw),some (.ref pq),v8,v9,v10,v11,v12,v13,v14] _ _
  clear hvat hvm hj hulp
  walk_at "rd"
  intro lF H14 s14 Vs eF
  have s614:qx H13 H14:=s14
  have ep14:=s614 _ _ ep3
  have hD14:=s614.seq hA6
  have epw14:=s614 _ _ epw
  walk_at "rd"
  refine⟨_,nj T epw14,?_⟩
  walk_at "rd"
  rw[g0]
  intro lG H15 s15 hlG eG
  walk_at "rd"
  intro lH H16 s16 hlH eH'
  walk_at "rd"
  intro p4 dx4 hp4 hdx4 hne4
  have sM4:=vH (o:=HO.own p4) (o2:=HO.ins t.qa dx4 []) hp4 hdx4
  refine⟨p4,dx4,lG,lH,sp.1,[ka c 0],[],rfl,qg,sM4 _ _ (s16 _ _ eG),sM4 _ _ eH',fun H17 o17 h17=>⟨rfl,?_⟩⟩
  have s17:qx H16 H17:=yh hp4 hdx4 o17
  obtain⟨dy4,a4,b4,f1,f2,f3,_,_⟩:=h17
  have hRn:qF t [] H17 (.pt sp.1 [ka c 0] []) (.ref p4):=by
   unfold qF
   exact⟨p4,dy4,a4,b4,[],rfl,by simp,by simp,by simp,f1,f2,f3,by unfold qt;rfl⟩
  clear f1 f2 f3 o17 sM4 hp4 hdx4 hne4 ep14 hD14 epw14
  walk_at "rd"
  intro lI H18 s18 hlI eI
  have s1418:qx H14 H18:=((s15.trans s16).trans s17).trans s18
  have s618:qx H13 H18:=s614.trans s1418
  refine⟨bw,lI,_,_,rfl,rfl,s618 _ _ ebw,eI,qy (by simp only[List.length_cons,List.length_nil];omega),?_⟩
  intro lJ H19 s19 hlJ eJ
  walk_at "rd"
  intro p5 dx5 hp5 hdx5 hne5
  have sM5:=vH (o:=HO.own p5) (o2:=HO.ins t.qa dx5 []) hp5 hdx5
  refine⟨p5,dx5,lF,lJ,("whole" : Str),[],yw ++ [V.ref p4],rfl,qg,sM5 _ _ ((s1418.trans s19) _ _ eF),sM5 _ _ eJ,fun H20 o20 h20=>⟨rfl,?_⟩⟩
  have s20:qx H19 H20:=yh hp5 hdx5 o20
  obtain⟨dy5,a5,b5,f1,f2,f3,_,_⟩:=h20
  have t20:qx H13 H20:=((s14.trans s1418).trans s19).trans s20
  have s620:qx H13 H20:=t20
  have hR20:qF t [] H20 (.pt "whole" [] (rows ++ [.pt sp.1 [ka c 0] []])) (.ref p5):=by
   unfold qF
   exact⟨p5,dy5,a5,b5,_,rfl,by simp,by simp,by simp,f1,f2,f3,qt.snoc (hRn.move (Fm.of ((s18.trans s19).trans s20)) fun _ z=>.inl z) (hRs.move (Fm.of s620) fun _ z=>.inl z)⟩
  have zh20:=s620 _ _ zh
  have zlp20:=s620 _ _ zlp
  have zla20:=s620 _ _ zla
  have zlr20:=s620 _ _ zlr
  clear f1 f2 f3 o20 sM5 hp5 hdx5 hne5 s1418 s618 s614 s14 s15 s16 s17 s18 s19 s20 eF eG eH' eI eJ Vs hlG hlH hlI hlJ hRn eU13 hS13
  show kY 11 (V.ref p5) [some (.ref a),some (.ref D),some (.ref p),some (.ref le),some (.ref lr),some (.ref ls),some (.ref pw),some (.ref pq),v8,some (.ref p3),v10,v11,v12,v13,v14] _ _
  walk_at "rd"
  intro p6 dx6 hp6 hdx6 hne6
  have mk6:=vH (o:=HO.own p6) (o2:=HO.ins t.jF dx6 []) hp6 hdx6
  refine⟨p6,dx6,lp,la,lr0,.ref p5,_,_,_,rfl,qg,mk6 _ _ zlp20,mk6 _ _ zla20,mk6 _ _ zlr20,fun H21 a6 b6 c6 o21 g1 g2 g3 g4 _ _ _=>⟨rfl,?_⟩⟩
  have s21:qx H20 H21:=fun c o e=>o21 c o (qb e hp6) (mk6 c o e)
  have t21:qx H13 H21:=t20.trans s21
  have s621:qx H13 H21:=t21
  have hA21:bC t H21 p6 ps as x9 (.pt "whole" [] (rows ++ [.pt sp.1 [ka c 0] []])):=⟨dx6,a6,b6,c6,.ref p5,_,g1,g2,g3,g4,Paired.imp' (fun _ _ z=>z.same s621) hR2,hR20.move (Fm.of s21) fun _ z=>.inl z⟩
  have ep321:=s621 _ _ ep3
  clear g1 g2 g3 g4 o21 mk6 hp6 hdx6 hne6 zh20 zlp20 zla20 zlr20 hR20 s21 s620
  walk_at "rd"
  have hd2:qS (rows ++ [.pt sp.1 [ka c 0] []])≤6:=by rw[iW];simp [qS,xx];omega
  have hk2:jB (rows ++ [.pt sp.1 [ka c 0] []]):=du hk (by simp [jB,kq])
  have hl2:(z9 (rows ++ [.pt sp.1 [ka c 0] []])).length≤100:=by rw[df,List.length_append,hfl];simp [z9,qh];omega
  refine⟨p6,ps,as,x9,_,_,_,sp.1,rfl,hA21,hd2,hk2,hl2,fun hN'=>?_,fun q1 r' H22 s22 hf hRn=>?_⟩
  ·by_cases hw:sp.1 = "whole"
   ·rw[hw,find_whole] at hN';cases hN'
   ·rw[dg (x:=sp.1) hnd hri rfl hw] at hN';cases hN'
  have t22:qx H13 H22:=t21.trans s22
  have s622:qx H13 H22:=t22
  have ep322:=s622 _ _ ep3
  clear hA21 hd2 hk2 hl2 ep321 s621 s22 t20 t21
  show kY 10 (V.ref q1) [some (.ref a),some (.ref D),some (.ref p),some (.ref le),some (.ref lr),some (.ref ls),some (.ref pw),some (.ref pq),v8,some (.ref p3),v10,some (.ref p5),v12,v13,v14] _ _
  walk_at "rd"
  by_cases hw:sp.1 = "whole"
  ·have hdec:(!decide (V.str sp.1=V.str (Str.ofString "whole")))=false:=by rw[hw];simp
   rw[hdec]
   walk_at "rd"
   exact mM ⟨c,a,D,p,le,lr,ls,pw,pq,ps,as,x9,ws,us,evs,rows,_,_,_,_,_,_,_,rfl,hq.same t22⟩
  ·have hdec:(!decide (V.str sp.1=V.str (Str.ofString "whole")))=true:=by
    rw[decide_eq_false (fun z=>hw (V.str.inj z))]
    rfl
   rw[hdec]
   rw[dg (x:=sp.1) hnd hri rfl hw] at hf
   cases hf
   walk_at "rd"
   refine⟨q1,p3,lr,evs,sp,rs',rws,rfl,hRn,ep322,s622 _ _ eR6,hO,fun H23 s23=>?_⟩
   walk_at "rd"
   exact mM ⟨c,a,D,p,le,lr,ls,pw,pq,ps,as,x9,ws,us,evs,rows,_,_,_,_,_,_,_,rfl,hq.same (t22.trans s23)⟩
 case c10=>
  intro σ H12 hm
  rw[hM] at hm
  obtain⟨c,a,D,p,le,lr,ls,pw,pq,ps,as,x9,ws,us,evs,rows,v8,v9,v10,v11,v12,v13,v14,rfl,hq⟩:=hm
  have hd:=hq.hW.dp
  have hk:=hq.hW.ko
  have hfl:=hq.hW.fl
  have he:=hq.hW.ev
  have hel:=he.len
  have hN:=gw c
  have g0:(NN c).getD (0:Int).toNat (Str.ofString "")=ka c 0:=ve c (i:=0) (by decide)
  have g103:(NN c).getD (103:Int).toNat (Str.ofString "")=ka c 103:=ve c (i:=103) (by decide)
  have eU12:=hq.eU
  have hU6:=hq.hU
  have eR6:=hq.eR
  have hA12:=hq.hA
  have hpr:=hq.hW.pr
  have hnd:=hq.hW.nd
  walk_at "rd"
  refine dc (K:=K) (a:=ls) (xs:=us) (fun i σ H'=>(∃(v9 v10:Option V),σ=[some (.ref a),some (.ref D),some (.ref p),some (.ref le),some (.ref lr),some (.ref ls),some (.ref pw),some (.ref pq),v8,v9,v10,v11,v12,v13,v14]∧qx H12 H')∨False) (.inl ⟨v9,v10,rfl,qx.refl _⟩) (fun i σ H' _ q=>(by obtain⟨_,_,_,z⟩:=q.resolve_right (fun z=>z);exact qC.of (z _ _ eU12))) ?_ ?_
  ·intro i y σ H' hi q
   obtain⟨w9,w10,rfl,s'⟩:=q.resolve_right (fun z=>z)
   clear q
   obtain⟨sp,hs0,p3,rfl,ep3⟩:=Paired.gk hU6 hi
   obtain⟨r,hri,rs',rws,rfl,hO,_⟩:=gH hpr hs0
   have s6':qx H12 H':=s'
   have ep3':=s6' _ _ ep3
   walk_at "rd"
   refine⟨pq,ps,as,x9,_,_,rows,sp.1,rfl,hA12.same s',hd,hk,by rw[hfl];omega,fun hN'=>?_,fun q1 r' Hn sn hf hRn=>?_⟩
   ·rw[nz (x:=sp.1) hnd hri rfl] at hN';cases hN'
   rw[nz (x:=sp.1) hnd hri rfl] at hf
   cases hf
   have s6n:qx H12 Hn:=s6'.trans sn
   walk_at "rd"
   refine⟨q1,p3,lr,evs,sp,rs',rws,rfl,hRn,s6n _ _ ep3,s6n _ _ eR6,hO,fun Hm sm=>?_⟩
   walk_at "rd"
   exact .inl ⟨_,_,rfl,(s'.trans sn).trans sm⟩
  intro σ H13 q
  obtain⟨w9,w10,rfl,s13⟩:=q.resolve_right (fun z=>z)
  walk_at "rd"
  exact mM ⟨c,a,D,p,le,lr,ls,pw,pq,ps,as,x9,ws,us,evs,rows,_,_,_,_,_,_,_,rfl,hq.same s13⟩
 case c8=>
  intro σ H8 hm
  rw[hM] at hm
  obtain⟨c,a,D,p,le,lr,ls,pw,pq,ps,as,x9,ws,us,evs,rows,v8,v9,v10,v11,v12,v13,v14,rfl,hq⟩:=hm
  have hd:=hq.hW.dp
  have hk:=hq.hW.ko
  have hfl:=hq.hW.fl
  have he:=hq.hW.ev
  have hel:=he.len
  have hN:=gw c
  have g0:(NN c).getD (0:Int).toNat (Str.ofString "")=ka c 0:=ve c (i:=0) (by decide)
  have g103:(NN c).getD (103:Int).toNat (Str.ofString "")=ka c 103:=ve c (i:=103) (by decide)
  have hA6:=hq.hN
  have hA8:=hq.hA
  have hD8:=hq.hN
  walk_at "rd"
  intro lA HA sA hlA eA
  have hDA:=sA.seq hD8
  walk_at "rd"
  rw[g0]
  intro lB HB sB hlB eB
  walk_at "rd"
  intro lC HC sC hlC eC
  walk_at "rd"
  intro p1 dx1 hp1 hdx1 hne1
  have sM1:=vH (o:=HO.own p1) (o2:=HO.ins t.qa dx1 []) hp1 hdx1
  refine⟨p1,dx1,lB,lC,ka c 0,[],[],rfl,qg,sM1 _ _ (sC _ _ eB),sM1 _ _ eC,fun HD oD hPD=>⟨rfl,?_⟩⟩
  have sD:qx HC HD:=yh hp1 hdx1 oD
  obtain⟨dy1,a1,b1,f1,f2,f3,_,_⟩:=hPD
  have hRi:qF t [] HD (.pt (ka c 0) [] []) (.ref p1):=by
   unfold qF
   exact⟨p1,dy1,a1,b1,[],rfl,by simp,by simp,by simp,f1,f2,f3,by unfold qt;rfl⟩
  clear oD hp1 hdx1 hne1 sM1 f1 f2 f3
  walk_at "rd"
  intro lE HE sE hlE eE
  walk_at "rd"
  intro p2 dx2 hp2' hdx2 hne2
  have sM2:=vH (o:=HO.own p2) (o2:=HO.ins t.qa dx2 []) hp2' hdx2
  have sAE:qx HA HE:=((sB.trans sC).trans sD).trans sE
  refine⟨p2,dx2,lA,lE,("whole" : Str),[],[V.ref p1],rfl,qg,sM2 _ _ (sAE _ _ eA),sM2 _ _ eE,fun HF oF hPF=>⟨rfl,?_⟩⟩
  have sF:qx HE HF:=yh hp2' hdx2 oF
  obtain⟨dy2,a2,b2,f1,f2,f3,_,_⟩:=hPF
  have hRb:qF t [] HF (.pt "whole" [] [.pt (ka c 0) [] []]) (.ref p2):=by
   unfold qF
   exact⟨p2,dy2,a2,b2,_,rfl,by simp,by simp,by simp,f1,f2,f3,qt.one (hRi.move (Fm.of (sE.trans sF)) fun _ z=>.inl z)⟩
  have s6F:qx H8 HF:=sA.trans (sAE.trans sF)
  have hAF:=hA8.same (sA.trans (sAE.trans sF))
  have hDF:=s6F.seq hA6
  clear oF hp2' hdx2 hne2 sM2 f1 f2 f3 sAE sF sE sD sC sB sA hA8 hD8 hDA eA eB eC eE hlA hlB hlC hlE hRi
  show kY 8 (V.ref p2) [some (.ref a),some (.ref D),some (.ref p),some (.ref le),some (.ref lr),some (.ref ls),some (.ref pw),some (.ref pq),v8,v9,v10,v11,v12,v13,v14] _ _
  walk_at "rd"
  have hbf:(z9 [Rw.pt (ka c 0) [] []]).length≤100:=by simp [z9,qh]
  have hbd:qS [Rw.pt (ka c 0) [] []]≤6:=by simp [qS,xx]
  have hbk:jB [Rw.pt (ka c 0) [] []]:=by simp [jB,kq]
  refine⟨[],p2,_,_,_,rfl,hRb,hbd,hbk,hbf,fun lp1 HG wp sG hlp1 eG hPt=>?_⟩
  refine⟨lp1,rfl,⟨_,qC.of eG⟩,?_⟩
  have hpb:je (.pt "whole" [] [.pt (ka c 0) [] []])=[.pt "whole" [] [.pt (ka c 0) [] []],.pt (ka c 0) [] []]:=by simp [je,xm]
  have hptl:=hPt.len
  rw[hpb] at hptl
  have hip:=bz (.pt "whole" [] [.pt (ka c 0) [] []])
  generalize hprt0:je (.pt "whole" [] [.pt (ka c 0) [] []])=prt at *
  refine vO (xK (qC.of eG)) (fun i _ v=>∀r,prt[i]?=some r→v=.str (gq r)) (qy (by rw[hptl];simp only[List.length_cons,List.length_nil];omega)) ?_ ?_
  ·intro i y H' Q' hy s' k
   obtain⟨r,hr0,hRw0⟩:=qt.gk hPt hy
   obtain⟨n',rs',rws,rfl⟩:=pB (hip r (List.mem_of_getElem? hr0))
   have hRw2:qF t [] H' (.pt n' rs' rws) y:=hRw0.move (Fm.of s') fun _ z=>.inl z
   unfold qF at hRw2
   obtain⟨q1,dx1,a1,b1,ys1,rfl,_,_,_,ep1,_⟩:=hRw2
   refine⟨_,rfl,_,rY T ep1,?_⟩
   refine k _ _ (qx.refl _) fun r' hr'=>?_
   rw[hr0] at hr'
   cases hr'
   rfl
  intro D5 H9 vs5 s9 hD5 e9 hl5 hp5
  subst hpb
  have hvs:vs5=([("whole" : Str),ka c 0]).map V.str:=by
   have w2:wp.length=2:=hptl
   exact Jx (by rw[hl5,w2]) (fun v hv=>hp5 0 _ v (List.getElem?_eq_getElem (by omega)) hv _ rfl) (fun v hv=>hp5 1 _ v (List.getElem?_eq_getElem (by omega)) hv _ rfl)
  subst hvs
  clear hp5 hl5 hptl hip hPt hprt0
  have sF9:qx HF H9:=sG.trans s9
  have hD9:=sF9.seq hDF
  walk_at "rd"
  rw[g0]
  intro l10 H10 s10 hl10 e10
  have shw:SeqAt.shaped (.list (([("whole" : Str),ka c 0]).map PyData.str))=true:=vn fun y hy=>by
   simp only[List.mem_cons,List.not_mem_nil,or_false] at hy
   rcases hy with rfl | rfl
   ·exact d8.ok
   ·exact uJ (md c)
  have e10':H10 l10=some (.lst (([("whole" : Str),ka c 0]).map V.str)):=e10
  refine⟨_,_,pf.lst (qC.of (s10 _ _ e9)) (va.strs _),pf.lst (qC.of e10') (va.strs _),shw,shw,?_⟩
  rw[gp,decide_eq_true rfl]
  have sF10:=sF9.trans s10
  walk_at "rd"
  refine⟨[],p2,_,_,_,rfl,hRb.move (Fm.of sF10) (fun _ z=>.inl z),hbd,hbk,hbf,fun lc H11 wc s11 hlc e11 hPc=>?_⟩
  have hwc:wc=[]:=by
   have h1:=hPc.len
   have h2:xl [Rw.pt (ka c 0) [] []]=[]:=by simp [xl,yk]
   rw[h2] at h1
   exact List.length_eq_zero_iff.mp h1
  subst hwc
  walk_at "rd"
  intro l12 H12 s12 hl12 e12
  refine⟨_,_,pf.lst (qC.of (s12 _ _ e11)) .nil,pf.lst (qC.of e12) .nil,dB,dB,?_⟩
  rw[show PyData.eqv (.list []) (.list [])=true by decide +kernel]
  have sF12:=(sF10.trans s11).trans s12
  have s612:qx H8 H12:=s6F.trans sF12
  walk_at "rd"
  exact mM ⟨c,a,D,p,le,lr,ls,pw,pq,ps,as,x9,ws,us,evs,rows,_,_,_,_,_,_,_,rfl,hq.same s612⟩
 case c7=>
  intro σ H1 hm
  rw[hM] at hm
  obtain⟨c,a,D,p,le,lr,ls,pw,pq,ps,as,x9,ws,us,evs,rows,v8,v9,v10,v11,v12,v13,v14,rfl,hw⟩:=hm
  walk_at "rd"
  show oH t [.ref pw,.ref le,.ref ls,.ref lr] H1 _ _
  refine hw.right fun H2 s2=>?_
  walk_at "rd"
  exact mM ⟨c,a,D,p,le,lr,ls,pw,pq,ps,as,x9,ws,us,evs,rows,_,_,_,_,_,_,_,rfl,hw.same s2⟩
 walk_at "rd"
 have hc:=sU (vK ns 1) 60
 have hcell:=sU (vK ns 0) 61
 refine vO pz (fun i _ v=>v=.str (ka (wo (vK ns 1) 60) (i:Int))) (qy (by decide +kernel)) ?_ ?_
 ·intro i y H' Q' hy s' kk
  have hi:i < 104:=by
   have:=(List.getElem?_eq_some_iff.mp hy).1
   simpa using this
  have hy':y=V.int (0 + (i:Int)):=by
   rw[List.getElem?_map,List.getElem?_range (show i < (104:Int).toNat from hi)] at hy
   exact(Option.some.inj hy).symm
  subst hy'
  refine⟨_,rfl,a,1,ns,rfl,s'.seq hS,by decide,?_⟩
  refine⟨_,_,rfl,by decide,by decide,?_⟩
  refine⟨_,rfl,_,_,rfl,hc.1,by omega,by omega,by omega,fun H4 s4=>?_⟩
  rw[Int.zero_add]
  exact kk _ _ s4 rfl
 intro D H1 ys s1 hD e1 hlen hp
 generalize hcc:wo (vK ns 1) 60=c at *
 generalize hce:wo (vK ns 0) 61=cell at *
 obtain rfl:=Jo (c:=c) (ys:=ys) (by rw[hlen];simp) fun i v hi hv=>hp i _ v (by rw[List.getElem?_map,List.getElem?_range (show i < (104:Int).toNat from hi)];rfl) hv
 clear hp hlen
 have hA1:qC K H1 D ((NN c).map V.str):=qC.of e1
 have hS1:=s1.seq hS
 refine⟨_,rfl,_,rfl,a,0,ns,rfl,hS1,by decide,?_⟩
 refine⟨_,_,rfl,by decide,by decide,?_⟩
 rw[hce]
 walk_at "rd"
 refine⟨D,c,cell,rfl,hA1,hcell.1,fun ps as x9 p H2 hH s2 hp2 eH=>?_⟩
 have hS2:=s2.seq hS1
 have hA2:=s2.seq hA1
 refine⟨_,rfl,_,rfl,D,a,c,ns,rfl,hA2,hS2,by omega,fun le H3 ws evs s3 hle e3 hP he Zp=>?_⟩
 have hS3:=s3.seq hS2
 have hA3:=s3.seq hA2
 have eH3:=eH.same s3
 have hel:=he.len
 have hwl:=Paired.length hP
 walk_at "rd"
 refine vO (xK (qC.of e3)) (fun i _ v=>∀e,evs[i]?=some e→v=.str e.row) (qy (by omega)) ?_ ?_
 ·intro i y H' Q' hy s' kk
  obtain⟨e,hei,hE⟩:=Paired.gk hP hy
  refine⟨_,rfl,y,e,rfl,hE.same s',he.ok e (List.mem_of_getElem? hei),fun H5 s5=>?_⟩
  refine kk _ _ s5 fun e' he'=>?_
  rw[hei] at he'
  cases he'
  rfl
 intro lr H4 vr s4 hlr e4 hvl hpv
 obtain rfl:=uP (H:=H) (evs:=evs) (vs:=vr) (by omega) fun i v e h1 h2=>by
  have hiy:i < ws.length:=by have:=(List.getElem?_eq_some_iff.mp h1).1;omega
  exact hpv i _ v (List.getElem?_eq_getElem hiy) h1 e h2
 clear hpv hvl
 show kY 4 (V.ref lr) [some (.ref a),some (.ref D),some (.ref p),some (.ref le),none,none,none,none,none,none,none,none,none,none,none] _ _
 have hP4:Paired (wm H4) ws evs:=Paired.imp' (fun _ _ z=>z.same s4) hP
 have eL4:=s4 _ _ e3
 walk_at "rd"
 refine⟨le,ws,evs,rfl,eL4,hP4,he.dp,hel,fun ls H5 us s5 hls e5 hU=>?_⟩
 walk_at "rd"
 refine⟨le,ws,evs,[],rfl,s5 _ _ eL4,Paired.imp' (fun _ _ z=>z.same s5) hP4,he,fun c hc=>(by cases hc),fun pw rows H6 s6 hfl hk hd y0=>?_⟩
 have hW:cw evs rows:=⟨hfl,hk,hd,he⟩
 have hUW:((("whole" : Str),0,evs.length,kC 0 (xT evs evs.length)) :: xT evs evs.length:List cx)=pj rows:=by
  have e0:xT evs evs.length=pk 0 rows:=by rw[←hfl];exact oP rows
  rw[e0,iV rows 0 0]
  unfold pj
  rw[hfl,Nat.max_eq_right (Nat.zero_le _)]
 rw[hUW] at hU
 have hU6:Paired (pd H6) us (pj rows):=Paired.imp' (fun _ _ z=>z.same s6) hU
 have s46:=s5.trans s6
 have s36:=s4.trans s46
 have eH6:=eH3.same s36
 have hA6:=s36.seq hA3
 have hS6:=s36.seq hS3
 have eL6:=s46 _ _ eL4
 have hP6:Paired (wm H6) ws evs:=Paired.imp' (fun _ _ z=>z.same s36) hP
 have eU6:=s6 _ _ e5
 have eR6:=s46 _ _ e4
 clear hUW hU e5 s5 s6 s46 s36 s4 s3 s2 s1 eL4 hP4 hP e3 e4 e1 hA1 hA2 hA3 hS1 hS2 hS3 eH eH3 hS hls hlr hle hcell hce hc
 obtain⟨lp,la,lr0,vr,zh,zlp,zla,zlr,hR2⟩:=id eH6
 walk_at "rd"
 intro pq dxq hpq hdq hne
 have mk:=vH (o:=HO.own pq) (o2:=HO.ins t.jF dxq []) hpq hdq
 refine⟨pq,dxq,lp,la,lr0,.ref pw,_,_,_,rfl,qg,mk _ _ zlp,mk _ _ zla,mk _ _ zlr,fun H7 a' b' c' o7 g1 g2 g3 g4 _ _ _=>⟨rfl,?_⟩⟩
 have s7:qx H6 H7:=fun c o e=>o7 c o (qb e hpq) (mk c o e)
 have hA7:bC t H7 pq ps as x9 (.pt "whole" [] rows):=⟨dxq,a',b',c',.ref pw,_,g1,g2,g3,g4,Paired.imp' (fun _ _ z=>z.same s7) hR2,y0.move (Fm.of s7) fun _ z=>.inl z⟩
 clear g1 g2 g3 g4 o7 mk hpq hdq hne
 walk_at "rd"
 exact mM ⟨c,a,D,p,le,lr,ls,pw,pq,ps,as,x9,ws,us,evs,rows,_,_,_,_,_,_,_,rfl,s7.seq hS6,s7.seq hA6,eH6.same s7,s7 _ _ eL6,Paired.imp' (fun _ _ z=>z.same s7) hP6,hW,s7 _ _ eU6,Paired.imp' (fun _ _ z=>z.same s7) hU6,s7 _ _ eR6,y0.move (Fm.of s7) (fun _ z=>.inl z),hA7,Zp⟩
theorem oj (T:Txt K mg t) (s:Shared) (u:Value):BindsTo s t.mF ⟨[u],[]⟩ [("_law_script",u)]:=by
 obtain⟨oc,od,kV,doc,pm,an,cdv,ct,osl,e,_⟩:=T.aH.fn.ex
 rw[e]
 exact .of_eq rfl
theorem ow {H:Hp} {a:Addr} {ns:List Int} (hl:ns.length≤63) (_:ib H) (hS:qC K H a (ns.map V.int)):ai K [.ref a] H (fun v _=>v=.bl true) fun _ _ _=>False:=
 ⟨a,ns,rfl,hS,hl,fun _=>rfl⟩
end
set_option maxHeartbeats 4000000 in
theorem Jk {K:PySem.W.Frag} {h:Heap} {mg:Str→Option Value} (X:K.In h) (G:h.Ns mainGlobals mg)
  {za zb zc zd ze zf zg zh zi zj zk zl zm zn zo zp zq zr zs zt zu zv zw zx zy zz zA zB zC zD zE zF zG zH zI zJ zK zL zM zN zO zP zQ zR zS zT:Addr}
  {zU zV:Option Addr} {zW:Array (Option Value)} {zX zY zZ zaa zab zac:Value}
  {zad zae:Option Addr} {zaf:Array (Option Value)} {zag zah zai zaj zak zal:Value}
  {zam zan:Option Addr} {zao:Array (Option Value)} {zap zaq zar zas zat zau:Value}
  {zav zaw:Option Addr} {zax:Array (Option Value)} {zay zaz zaA zaB zaC zaD:Value}
  {zaE zaF:Option Addr} {zaG:Array (Option Value)} {zaH zaI zaJ zaK zaL zaM:Value}
  {zaN zaO:Option Addr} {zaP:Array (Option Value)} {zaQ zaR zaS zaT zaU zaV:Value}
  {zaW zaX:Option Addr} {zaY:Array (Option Value)} {zaZ zba zbb zbc zbd zbe:Value}
  {zbf zbg:Option Addr} {zbh:Array (Option Value)} {zbi zbj zbk zbl zbm zbn:Value}
  {zbo zbp:Option Addr} {zbq:Array (Option Value)} {zbr zbs zbt zbu zbv zbw:Value}
  {zbx zby:Option Addr} {zbz:Array (Option Value)} {zbA zbB zbC zbD zbE zbF:Value}
  {zbG zbH:Option Addr} {zbI:Array (Option Value)} {zbJ zbK zbL zbM zbN zbO:Value}
  {zbP zbQ:Option Addr} {zbR:Array (Option Value)} {zbS zbT zbU zbV zbW zbX:Value}
  {zbY zbZ:Option Addr} {zca:Array (Option Value)} {zcb zcc zcd zce zcf zcg:Value}
  {zch zci:Option Addr} {zcj:Array (Option Value)} {zck zcl zcm zcn zco zcp:Value}
  {zcq zcr:Option Addr} {zcs:Array (Option Value)} {zct zcu zcv zcw zcx zcy:Value}
  {zcz zcA:Option Addr} {zcB:Array (Option Value)} {zcC zcD zcE zcF zcG zcH:Value}
  {zcI zcJ:Option Addr} {zcK:Array (Option Value)} {zcL zcM zcN zcO zcP zcQ:Value}
  {zcR zcS:Option Addr} {zcT:Array (Option Value)} {zcU zcV zcW zcX zcY zcZ:Value}
  {zda zdb:Option Addr} {zdc:Array (Option Value)} {zdd zde zdf zdg zdh zdi:Value}
  {zdj zdk:Option Addr} {zdl:Array (Option Value)} {zdm zdn zdo zdp zdq zdr:Value}
  {zds zdt:Option Addr} {zdu:Array (Option Value)} {zdv zdw zdx zdy zdz zdA:Value}
  {zdB zdC:Option Addr} {zdD:Array (Option Value)} {zdE zdF zdG zdH zdI zdJ:Value}
  {zdK zdL:Option Addr} {zdM:Array (Option Value)} {zdN zdO zdP zdQ zdR zdS:Value}
  {zdT zdU:Option Addr} {zdV:Array (Option Value)} {zdW zdX zdY zdZ zea zeb:Value}
  {zec zed:Option Addr} {zee:Array (Option Value)} {zef zeg zeh zei zej zek:Value}
  {zel zem:Option Addr} {zen:Array (Option Value)} {zeo zep zeq zer zes zet:Value}
  {zeu zev:Option Addr} {zew:Array (Option Value)} {zex zey zez zeA zeB zeC:Value}
  {zeD zeE:Option Addr} {zeF:Array (Option Value)} {zeG zeH zeI zeJ zeK zeL:Value}
  {zeM zeN:Option Addr} {zeO:Array (Option Value)} {zeP zeQ zeR zeS zeT zeU:Value}
  {zeV zeW:Option Addr} {zeX:Array (Option Value)} {zeY zeZ zfa zfb zfc zfd:Value}
  {zfe zff:Option Addr} {zfg:Array (Option Value)} {zfh zfi zfj zfk zfl zfm:Value}
  {zfn zfo:Option Addr} {zfp:Array (Option Value)} {zfq zfr zfs zft zfu zfv:Value}
  {zfw zfx:Option Addr} {zfy:Array (Option Value)} {zfz zfA zfB zfC zfD zfE:Value}
  {zfF zfG:Option Addr} {zfH:Array (Option Value)} {zfI zfJ zfK zfL zfM zfN:Value}
  {zfO zfP:Option Addr} {zfQ:Array (Option Value)} {zfR zfS zfT zfU zfV zfW:Value}
  {zfX zfY:Option Addr} {zfZ:Array (Option Value)} {zga zgb zgc zgd zge zgf:Value}
  {zgg zgh:Option Addr} {zgi:Array (Option Value)} {zgj zgk zgl zgm zgn zgo:Value}
  (zgp:PySem.W.nsIn K mainGlobals "Row" = some (some (.ref zL)))
  (zgq:PySem.W.nsIn K mainGlobals "Clause" = some (some (.ref zM)))
  (zgr:PySem.W.nsIn K mainGlobals "Duty" = some (some (.ref zN)))
  (zgs:PySem.W.nsIn K mainGlobals "Leave" = some (some (.ref zO)))
  (zgt:PySem.W.nsIn K mainGlobals "Ban" = some (some (.ref zP)))
  (zgu:PySem.W.nsIn K mainGlobals "Power" = some (some (.ref zQ)))
  (zgv:PySem.W.nsIn K mainGlobals "Let" = some (some (.ref zR)))
  (zgw:PySem.W.nsIn K mainGlobals "Part" = some (some (.ref zS)))
  (zgx:PySem.W.nsIn K mainGlobals "Pact" = some (some (.ref zT)))
  (zgy:PySem.W.findIn K (.ref zL) "rows_told" = some (some (.ref za)))
  (zgz:K.lookup za=some ⟨zX,zU,.func (PySem.W.fnOf "rows_told" "Row.rows_told" (qj jt) (qq jt) (z5 jt) .none zY zZ zaa zV zab zac),zW⟩)
  (zgA:PySem.W.codeIn K zab "Row.rows_told" = true)
  (zgB:PySem.W.keepIn K (.ref za)=true)
  (zgC:PySem.W.findIn K (.ref zM) "__init__" = some (some (.ref zb)))
  (zgD:K.lookup zb=some ⟨zag,zad,.func (PySem.W.fnOf "__init__" "Clause.__init__" (qj jJ) (qq jJ) (z5 jJ) .none zah zai zaj zae zak zal),zaf⟩)
  (zgE:PySem.W.codeIn K zak "Clause.__init__" = true)
  (zgF:PySem.W.keepIn K (.ref zb)=true)
  (zgG:PySem.W.findIn K (.ref zM) "rows_told" = some (some (.ref zc)))
  (zgH:K.lookup zc=some ⟨zap,zam,.func (PySem.W.fnOf "rows_told" "Clause.rows_told" (qj qB) (qq qB) (z5 qB) .none zaq zar zas zan zat zau),zao⟩)
  (zgI:PySem.W.codeIn K zat "Clause.rows_told" = true)
  (zgJ:PySem.W.keepIn K (.ref zc)=true)
  (zgK:PySem.W.findIn K (.ref zM) "tail" = some (some (.ref zd)))
  (zgL:K.lookup zd=some ⟨zay,zav,.func (PySem.W.fnOf "tail" "Clause.tail" (qj jS) (qq jS) (z5 jS) .none zaz zaA zaB zaw zaC zaD),zax⟩)
  (zgM:PySem.W.codeIn K zaC "Clause.tail" = true)
  (zgN:PySem.W.keepIn K (.ref zd)=true)
  (zgO:PySem.W.findIn K (.ref zN) "__init__" = some (some (.ref ze)))
  (zgP:K.lookup ze=some ⟨zaH,zaE,.func (PySem.W.fnOf "__init__" "Duty.__init__" (qj j6) (qq j6) (z5 j6) .none zaI zaJ zaK zaF zaL zaM),zaG⟩)
  (zgQ:PySem.W.codeIn K zaL "Duty.__init__" = true)
  (zgR:PySem.W.keepIn K (.ref ze)=true)
  (zgS:PySem.W.findIn K (.ref zN) "tail" = some (some (.ref zf)))
  (zgT:K.lookup zf=some ⟨zaQ,zaN,.func (PySem.W.fnOf "tail" "Duty.tail" (qj j7) (qq j7) (z5 j7) .none zaR zaS zaT zaO zaU zaV),zaP⟩)
  (zgU:PySem.W.codeIn K zaU "Duty.tail" = true)
  (zgV:PySem.W.keepIn K (.ref zf)=true)
  (zgW:PySem.W.findIn K (.ref zO) "tail" = some (some (.ref zg)))
  (zgX:K.lookup zg=some ⟨zaZ,zaW,.func (PySem.W.fnOf "tail" "Leave.tail" (qj jC) (qq jC) (z5 jC) .none zba zbb zbc zaX zbd zbe),zaY⟩)
  (zgY:PySem.W.codeIn K zbd "Leave.tail" = true)
  (zgZ:PySem.W.keepIn K (.ref zg)=true)
  (zha:PySem.W.findIn K (.ref zP) "__init__" = some (some (.ref zh)))
  (zhb:K.lookup zh=some ⟨zbi,zbf,.func (PySem.W.fnOf "__init__" "Ban.__init__" (qj xt) (qq xt) (z5 xt) .none zbj zbk zbl zbg zbm zbn),zbh⟩)
  (zhc:PySem.W.codeIn K zbm "Ban.__init__" = true)
  (zhd:PySem.W.keepIn K (.ref zh)=true)
  (zhe:PySem.W.findIn K (.ref zP) "tail" = some (some (.ref zi)))
  (zhf:K.lookup zi=some ⟨zbr,zbo,.func (PySem.W.fnOf "tail" "Ban.tail" (qj xn) (qq xn) (z5 xn) .none zbs zbt zbu zbp zbv zbw),zbq⟩)
  (zhg:PySem.W.codeIn K zbv "Ban.tail" = true)
  (zhh:PySem.W.keepIn K (.ref zi)=true)
  (zhi:PySem.W.findIn K (.ref zQ) "__init__" = some (some (.ref zj)))
  (zhj:K.lookup zj=some ⟨zbA,zbx,.func (PySem.W.fnOf "__init__" "Power.__init__" (qj jU) (qq jU) (z5 jU) .none zbB zbC zbD zby zbE zbF),zbz⟩)
  (zhk:PySem.W.codeIn K zbE "Power.__init__" = true)
  (zhl:PySem.W.keepIn K (.ref zj)=true)
  (zhm:PySem.W.findIn K (.ref zQ) "tail" = some (some (.ref zk)))
  (zhn:K.lookup zk=some ⟨zbJ,zbG,.func (PySem.W.fnOf "tail" "Power.tail" (qj jR) (qq jR) (z5 jR) .none zbK zbL zbM zbH zbN zbO),zbI⟩)
  (zho:PySem.W.codeIn K zbN "Power.tail" = true)
  (zhp:PySem.W.keepIn K (.ref zk)=true)
  (zhq:PySem.W.findIn K (.ref zR) "__init__" = some (some (.ref zl)))
  (zhr:K.lookup zl=some ⟨zbS,zbP,.func (PySem.W.fnOf "__init__" "Let.__init__" (qj xo) (qq xo) (z5 xo) .none zbT zbU zbV zbQ zbW zbX),zbR⟩)
  (zhs:PySem.W.codeIn K zbW "Let.__init__" = true)
  (zht:PySem.W.keepIn K (.ref zl)=true)
  (zhu:PySem.W.findIn K (.ref zR) "rows_told" = some (some (.ref zm)))
  (zhv:K.lookup zm=some ⟨zcb,zbY,.func (PySem.W.fnOf "rows_told" "Let.rows_told" (qj jw) (qq jw) (z5 jw) .none zcc zcd zce zbZ zcf zcg),zca⟩)
  (zhw:PySem.W.codeIn K zcf "Let.rows_told" = true)
  (zhx:PySem.W.keepIn K (.ref zm)=true)
  (zhy:PySem.W.findIn K (.ref zS) "__init__" = some (some (.ref zn)))
  (zhz:K.lookup zn=some ⟨zck,zch,.func (PySem.W.fnOf "__init__" "Part.__init__" (qj j9) (qq j9) (z5 j9) .none zcl zcm zcn zci zco zcp),zcj⟩)
  (zhA:PySem.W.codeIn K zco "Part.__init__" = true)
  (zhB:PySem.W.keepIn K (.ref zn)=true)
  (zhC:PySem.W.findIn K (.ref zS) "rows_told" = some (some (.ref zo)))
  (zhD:K.lookup zo=some ⟨zct,zcq,.func (PySem.W.fnOf "rows_told" "Part.rows_told" (qj jj) (qq jj) (z5 jj) .none zcu zcv zcw zcr zcx zcy),zcs⟩)
  (zhE:PySem.W.codeIn K zcx "Part.rows_told" = true)
  (zhF:PySem.W.keepIn K (.ref zo)=true)
  (zhG:PySem.W.findIn K (.ref zS) "first_row" = some (some (.ref zp)))
  (zhH:K.lookup zp=some ⟨zcC,zcz,.func (PySem.W.fnOf "first_row" "Part.first_row" (qj jq) (qq jq) (z5 jq) .none zcD zcE zcF zcA zcG zcH),zcB⟩)
  (zhI:PySem.W.codeIn K zcG "Part.first_row" = true)
  (zhJ:PySem.W.keepIn K (.ref zp)=true)
  (zhK:PySem.W.findIn K (.ref zT) "__init__" = some (some (.ref zq)))
  (zhL:K.lookup zq=some ⟨zcL,zcI,.func (PySem.W.fnOf "__init__" "Pact.__init__" (qj j8) (qq j8) (z5 j8) .none zcM zcN zcO zcJ zcP zcQ),zcK⟩)
  (zhM:PySem.W.codeIn K zcP "Pact.__init__" = true)
  (zhN:PySem.W.keepIn K (.ref zq)=true)
  (zhO:PySem.W.nsIn K mainGlobals "clauses_of" = some (some (.ref zr)))
  (zhP:K.lookup zr=some ⟨zcU,zcR,.func (PySem.W.fnOf "clauses_of" "clauses_of" (qj jm) (qq jm) (z5 jm) .none zcV zcW zcX zcS zcY zcZ),zcT⟩)
  (zhQ:PySem.W.codeIn K zcY "clauses_of" = true)
  (zhR:PySem.W.keepIn K (.ref zr)=true)
  (zhS:PySem.W.nsIn K mainGlobals "parts_of" = some (some (.ref zs)))
  (zhT:K.lookup zs=some ⟨zdd,zda,.func (PySem.W.fnOf "parts_of" "parts_of" (qj jL) (qq jL) (z5 jL) .none zde zdf zdg zdb zdh zdi),zdc⟩)
  (zhU:PySem.W.codeIn K zdh "parts_of" = true)
  (zhV:PySem.W.keepIn K (.ref zs)=true)
  (zhW:PySem.W.nsIn K mainGlobals "depth_of" = some (some (.ref zt)))
  (zhX:K.lookup zt=some ⟨zdm,zdj,.func (PySem.W.fnOf "depth_of" "depth_of" (qj jX) (qq jX) (z5 jX) .none zdn zdo zdp zdk zdq zdr),zdl⟩)
  (zhY:PySem.W.codeIn K zdq "depth_of" = true)
  (zhZ:PySem.W.keepIn K (.ref zt)=true)
  (zia:PySem.W.nsIn K mainGlobals "parts_within" = some (some (.ref zu)))
  (zib:K.lookup zu=some ⟨zdv,zds,.func (PySem.W.fnOf "parts_within" "parts_within" (qj qI) (qq qI) (z5 qI) .none zdw zdx zdy zdt zdz zdA),zdu⟩)
  (zic:PySem.W.codeIn K zdz "parts_within" = true)
  (zid:PySem.W.keepIn K (.ref zu)=true)
  (zie:PySem.W.nsIn K mainGlobals "part_named" = some (some (.ref zv)))
  (zif:K.lookup zv=some ⟨zdE,zdB,.func (PySem.W.fnOf "part_named" "part_named" (qj jd) (qq jd) (z5 jd) .none zdF zdG zdH zdC zdI zdJ),zdD⟩)
  (zig:PySem.W.codeIn K zdI "part_named" = true)
  (zih:PySem.W.keepIn K (.ref zv)=true)
  (zii:PySem.W.nsIn K mainGlobals "_law_cell_at" = some (some (.ref zw)))
  (zij:K.lookup zw=some ⟨zdN,zdK,.func (PySem.W.fnOf "_law_cell_at" "_law_cell_at" (qj xq) (qq xq) (z5 xq) .none zdO zdP zdQ zdL zdR zdS),zdM⟩)
  (zik:PySem.W.codeIn K zdR "_law_cell_at" = true)
  (zil:PySem.W.keepIn K (.ref zw)=true)
  (zim:PySem.W.nsIn K mainGlobals "_law_mix" = some (some (.ref zx)))
  (zin:K.lookup zx=some ⟨zdW,zdT,.func (PySem.W.fnOf "_law_mix" "_law_mix" (qj vP) (qq vP) (z5 vP) .none zdX zdY zdZ zdU zea zeb),zdV⟩)
  (zio:PySem.W.codeIn K zea "_law_mix" = true)
  (ziq:PySem.W.keepIn K (.ref zx)=true)
  (zir:PySem.W.nsIn K mainGlobals "_law_name" = some (some (.ref zy)))
  (zis:K.lookup zy=some ⟨zef,zec,.func (PySem.W.fnOf "_law_name" "_law_name" (qj kP) (qq kP) (z5 kP) .none zeg zeh zei zed zej zek),zee⟩)
  (zit:PySem.W.codeIn K zej "_law_name" = true)
  (ziu:PySem.W.keepIn K (.ref zy)=true)
  (ziv:PySem.W.nsIn K mainGlobals "_law_event" = some (some (.ref zz)))
  (ziw:K.lookup zz=some ⟨zeo,zel,.func (PySem.W.fnOf "_law_event" "_law_event" (qj xu) (qq xu) (z5 xu) .none zep zeq zer zem zes zet),zen⟩)
  (zix:PySem.W.codeIn K zes "_law_event" = true)
  (ziy:PySem.W.keepIn K (.ref zz)=true)
  (ziz:PySem.W.nsIn K mainGlobals "_law_events" = some (some (.ref zA)))
  (ziA:K.lookup zA=some ⟨zex,zeu,.func (PySem.W.fnOf "_law_events" "_law_events" (qj xa) (qq xa) (z5 xa) .none zey zez zeA zev zeB zeC),zew⟩)
  (ziB:PySem.W.codeIn K zeB "_law_events" = true)
  (ziC:PySem.W.keepIn K (.ref zA)=true)
  (ziD:PySem.W.nsIn K mainGlobals "_law_header" = some (some (.ref zB)))
  (ziE:K.lookup zB=some ⟨zeG,zeD,.func (PySem.W.fnOf "_law_header" "_law_header" (qj xZ) (qq xZ) (z5 xZ) .none zeH zeI zeJ zeE zeK zeL),zeF⟩)
  (ziF:PySem.W.codeIn K zeK "_law_header" = true)
  (ziG:PySem.W.keepIn K (.ref zB)=true)
  (ziH:PySem.W.nsIn K mainGlobals "_law_row" = some (some (.ref zC)))
  (ziI:K.lookup zC=some ⟨zeP,zeM,.func (PySem.W.fnOf "_law_row" "_law_row" (qj vF) (qq vF) (z5 vF) .none zeQ zeR zeS zeN zeT zeU),zeO⟩)
  (ziJ:PySem.W.codeIn K zeT "_law_row" = true)
  (ziK:PySem.W.keepIn K (.ref zC)=true)
  (ziL:PySem.W.nsIn K mainGlobals "_law_object" = some (some (.ref zD)))
  (ziM:K.lookup zD=some ⟨zeY,zeV,.func (PySem.W.fnOf "_law_object" "_law_object" (qj xQ) (qq xQ) (z5 xQ) .none zeZ zfa zfb zeW zfc zfd),zeX⟩)
  (ziN:PySem.W.codeIn K zfc "_law_object" = true)
  (ziO:PySem.W.keepIn K (.ref zD)=true)
  (ziP:PySem.W.nsIn K mainGlobals "_law_whole_part" = some (some (.ref zE)))
  (ziQ:K.lookup zE=some ⟨zfh,zfe,.func (PySem.W.fnOf "_law_whole_part" "_law_whole_part" (qj ju) (qq ju) (z5 ju) .none zfi zfj zfk zff zfl zfm),zfg⟩)
  (ziR:PySem.W.codeIn K zfl "_law_whole_part" = true)
  (ziS:PySem.W.keepIn K (.ref zE)=true)
  (ziT:PySem.W.nsIn K mainGlobals "_law_clause" = some (some (.ref zF)))
  (ziU:K.lookup zF=some ⟨zfq,zfn,.func (PySem.W.fnOf "_law_clause" "_law_clause" (qj xi) (qq xi) (z5 xi) .none zfr zfs zft zfo zfu zfv),zfp⟩)
  (ziV:PySem.W.codeIn K zfu "_law_clause" = true)
  (ziW:PySem.W.keepIn K (.ref zF)=true)
  (ziX:PySem.W.nsIn K mainGlobals "_law_spans" = some (some (.ref zG)))
  (ziY:K.lookup zG=some ⟨zfz,zfw,.func (PySem.W.fnOf "_law_spans" "_law_spans" (qj kz) (qq kz) (z5 kz) .none zfA zfB zfC zfx zfD zfE),zfy⟩)
  (ziZ:PySem.W.codeIn K zfD "_law_spans" = true)
  (zja:PySem.W.keepIn K (.ref zG)=true)
  (zjb:PySem.W.nsIn K mainGlobals "_law_part_right" = some (some (.ref zH)))
  (zjc:K.lookup zH=some ⟨zfI,zfF,.func (PySem.W.fnOf "_law_part_right" "_law_part_right" (qj jc) (qq jc) (z5 jc) .none zfJ zfK zfL zfG zfM zfN),zfH⟩)
  (zjd:PySem.W.codeIn K zfM "_law_part_right" = true)
  (zje:PySem.W.keepIn K (.ref zH)=true)
  (zjf:PySem.W.nsIn K mainGlobals "_law_within" = some (some (.ref zI)))
  (zjg:K.lookup zI=some ⟨zfR,zfO,.func (PySem.W.fnOf "_law_within" "_law_within" (qj jZ) (qq jZ) (z5 jZ) .none zfS zfT zfU zfP zfV zfW),zfQ⟩)
  (zjh:PySem.W.codeIn K zfV "_law_within" = true)
  (zji:PySem.W.keepIn K (.ref zI)=true)
  (zjj:PySem.W.nsIn K mainGlobals "_law_right" = some (some (.ref zJ)))
  (zjk:K.lookup zJ=some ⟨zga,zfX,.func (PySem.W.fnOf "_law_right" "_law_right" (qj xr) (qq xr) (z5 xr) .none zgb zgc zgd zfY zge zgf),zfZ⟩)
  (zjl:PySem.W.codeIn K zge "_law_right" = true)
  (zjm:PySem.W.keepIn K (.ref zJ)=true)
  (zjn:PySem.W.nsIn K mainGlobals "law" = some (some (.ref zK)))
  (zjo:K.lookup zK=some ⟨zgj,zgg,.func (PySem.W.fnOf "law" "law" (qj kh) (qq kh) (z5 kh) .none zgk zgl zgm zgh zgn zgo),zgi⟩)
  (zjp:PySem.W.codeIn K zgn "law" = true)
  (zjq:PySem.W.keepIn K (.ref zK)=true)
  (zjr:PySem.W.nsIn K mainGlobals "list" = some none)
  (zjs:PySem.W.nsIn K mainGlobals "len" = some none)
  (zjt:PySem.W.nsIn K mainGlobals "range" = some none)
  (zju:PySem.W.nsIn K mainGlobals "int" = some none)
  (zjv:PySem.W.nsIn K mainGlobals "str" = some none)
  (zjw:PySem.W.nsIn K mainGlobals "isinstance" = some none)
  (zjx:PySem.W.nsIn K mainGlobals "bool" = some none)
  (zjy:PySem.W.nsIn K mainGlobals "max" = some none)
  (zjz:PySem.W.nsIn K mainGlobals "zip" = some none)
  (zjA:PySem.W.plainGet K zM Str.empty=true)
  (zjB:PySem.W.hasDictIn K zM=true)
  (zjC:PySem.W.plainOver K zM=true)
  (zjD:PySem.W.findIn K (.ref zM) "__setattr__" = some (some (.builtin "object.__setattr__")))
  (zjE:PySem.W.findIn K (.ref zM) "act" = some none)
  (zjF:PySem.W.findIn K (.ref zM) "label" = some none)
  (zjG:PySem.W.findIn K (.ref zM) "room" = some none)
  (zjH:PySem.W.findIn K (.ref zM) "turns" = some none)
  (zjI:PySem.W.findIn K (.ref zM) "who" = some none)
  (zjJ:PySem.W.makesIn K zM=true)
  (zjK:PySem.W.findIn K (.ref zM) "__init__" = some (some (.ref zb)))
  (zjL:PySem.W.isFn K (.ref zb)=true)
  (zjM:PySem.W.keepIn K (.ref zM)=true)
  (zjN:PySem.W.plainGet K zN Str.empty=true)
  (zjO:PySem.W.hasDictIn K zN=true)
  (zjP:PySem.W.plainOver K zN=true)
  (zjQ:PySem.W.findIn K (.ref zN) "__setattr__" = some (some (.builtin "object.__setattr__")))
  (zjR:PySem.W.findIn K (.ref zN) "act" = some none)
  (zjS:PySem.W.findIn K (.ref zN) "label" = some none)
  (zjT:PySem.W.findIn K (.ref zN) "room" = some none)
  (zjU:PySem.W.findIn K (.ref zN) "turns" = some none)
  (zjV:PySem.W.findIn K (.ref zN) "who" = some none)
  (zjW:PySem.W.makesIn K zN=true)
  (zjX:PySem.W.findIn K (.ref zN) "__init__" = some (some (.ref ze)))
  (zjY:PySem.W.isFn K (.ref ze)=true)
  (zjZ:PySem.W.keepIn K (.ref zN)=true)
  (zka:PySem.W.findIn K (.ref zN) "tail" = some (some (.ref zf)))
  (zkb:PySem.W.isFn K (.ref zf)=true)
  (zkc:PySem.W.findIn K (.ref zN) "rows_told" = some (some (.ref zc)))
  (zkd:PySem.W.isFn K (.ref zc)=true)
  (zke:PySem.W.plainGet K zO Str.empty=true)
  (zkf:PySem.W.hasDictIn K zO=true)
  (zkg:PySem.W.plainOver K zO=true)
  (zkh:PySem.W.findIn K (.ref zO) "__setattr__" = some (some (.builtin "object.__setattr__")))
  (zki:PySem.W.findIn K (.ref zO) "act" = some none)
  (zkj:PySem.W.findIn K (.ref zO) "label" = some none)
  (zkk:PySem.W.findIn K (.ref zO) "room" = some none)
  (zkl:PySem.W.findIn K (.ref zO) "turns" = some none)
  (zkm:PySem.W.findIn K (.ref zO) "who" = some none)
  (zkn:PySem.W.findIn K (.ref zO) "tail" = some (some (.ref zg)))
  (zko:PySem.W.isFn K (.ref zg)=true)
  (zkp:PySem.W.makesIn K zO=true)
  (zkq:PySem.W.findIn K (.ref zO) "__init__" = some (some (.ref zb)))
  (zkr:PySem.W.isFn K (.ref zb)=true)
  (zks:PySem.W.keepIn K (.ref zO)=true)
  (zkt:PySem.W.findIn K (.ref zO) "rows_told" = some (some (.ref zc)))
  (zku:PySem.W.isFn K (.ref zc)=true)
  (zkv:PySem.W.plainGet K zP Str.empty=true)
  (zkw:PySem.W.hasDictIn K zP=true)
  (zkx:PySem.W.plainOver K zP=true)
  (zky:PySem.W.findIn K (.ref zP) "__setattr__" = some (some (.builtin "object.__setattr__")))
  (zkz:PySem.W.findIn K (.ref zP) "act" = some none)
  (zkA:PySem.W.findIn K (.ref zP) "label" = some none)
  (zkB:PySem.W.findIn K (.ref zP) "room" = some none)
  (zkC:PySem.W.findIn K (.ref zP) "turns" = some none)
  (zkD:PySem.W.findIn K (.ref zP) "who" = some none)
  (zkE:PySem.W.makesIn K zP=true)
  (zkF:PySem.W.findIn K (.ref zP) "__init__" = some (some (.ref zh)))
  (zkG:PySem.W.isFn K (.ref zh)=true)
  (zkH:PySem.W.keepIn K (.ref zP)=true)
  (zkI:PySem.W.findIn K (.ref zP) "tail" = some (some (.ref zi)))
  (zkJ:PySem.W.isFn K (.ref zi)=true)
  (zkK:PySem.W.findIn K (.ref zP) "rows_told" = some (some (.ref zc)))
  (zkL:PySem.W.isFn K (.ref zc)=true)
  (zkM:PySem.W.plainGet K zQ Str.empty=true)
  (zkN:PySem.W.hasDictIn K zQ=true)
  (zkO:PySem.W.plainOver K zQ=true)
  (zkP:PySem.W.findIn K (.ref zQ) "__setattr__" = some (some (.builtin "object.__setattr__")))
  (zkQ:PySem.W.findIn K (.ref zQ) "act" = some none)
  (zkR:PySem.W.findIn K (.ref zQ) "label" = some none)
  (zkS:PySem.W.findIn K (.ref zQ) "room" = some none)
  (zkT:PySem.W.findIn K (.ref zQ) "turns" = some none)
  (zkU:PySem.W.findIn K (.ref zQ) "who" = some none)
  (zkV:PySem.W.makesIn K zQ=true)
  (zkW:PySem.W.findIn K (.ref zQ) "__init__" = some (some (.ref zj)))
  (zkX:PySem.W.isFn K (.ref zj)=true)
  (zkY:PySem.W.keepIn K (.ref zQ)=true)
  (zkZ:PySem.W.findIn K (.ref zQ) "tail" = some (some (.ref zk)))
  (zla:PySem.W.isFn K (.ref zk)=true)
  (zlb:PySem.W.findIn K (.ref zQ) "rows_told" = some (some (.ref zc)))
  (zlc:PySem.W.isFn K (.ref zc)=true)
  (zld:PySem.W.plainGet K zR Str.empty=true)
  (zle:PySem.W.hasDictIn K zR=true)
  (zlf:PySem.W.plainOver K zR=true)
  (zlg:PySem.W.findIn K (.ref zR) "__setattr__" = some (some (.builtin "object.__setattr__")))
  (zlh:PySem.W.findIn K (.ref zR) "name" = some none)
  (zli:PySem.W.findIn K (.ref zR) "value" = some none)
  (zlj:PySem.W.makesIn K zR=true)
  (zlk:PySem.W.findIn K (.ref zR) "__init__" = some (some (.ref zl)))
  (zll:PySem.W.isFn K (.ref zl)=true)
  (zlm:PySem.W.keepIn K (.ref zR)=true)
  (zln:PySem.W.findIn K (.ref zR) "rows_told" = some (some (.ref zm)))
  (zlo:PySem.W.isFn K (.ref zm)=true)
  (zlp:PySem.W.plainGet K zS Str.empty=true)
  (zlq:PySem.W.hasDictIn K zS=true)
  (zlr:PySem.W.plainOver K zS=true)
  (zls:PySem.W.findIn K (.ref zS) "__setattr__" = some (some (.builtin "object.__setattr__")))
  (zlt:PySem.W.findIn K (.ref zS) "name" = some none)
  (zlu:PySem.W.findIn K (.ref zS) "rooms" = some none)
  (zlv:PySem.W.findIn K (.ref zS) "rows" = some none)
  (zlw:PySem.W.makesIn K zS=true)
  (zlx:PySem.W.findIn K (.ref zS) "__init__" = some (some (.ref zn)))
  (zly:PySem.W.isFn K (.ref zn)=true)
  (zlz:PySem.W.keepIn K (.ref zS)=true)
  (zlA:PySem.W.findIn K (.ref zS) "rows_told" = some (some (.ref zo)))
  (zlB:PySem.W.isFn K (.ref zo)=true)
  (zlC:PySem.W.findIn K (.ref zS) "first_row" = some (some (.ref zp)))
  (zlD:PySem.W.isFn K (.ref zp)=true)
  (zlE:PySem.W.plainGet K zT Str.empty=true)
  (zlF:PySem.W.hasDictIn K zT=true)
  (zlG:PySem.W.plainOver K zT=true)
  (zlH:PySem.W.findIn K (.ref zT) "__setattr__" = some (some (.builtin "object.__setattr__")))
  (zlI:PySem.W.findIn K (.ref zT) "acts" = some none)
  (zlJ:PySem.W.findIn K (.ref zT) "parties" = some none)
  (zlK:PySem.W.findIn K (.ref zT) "rooms" = some none)
  (zlL:PySem.W.findIn K (.ref zT) "whole" = some none)
  (zlM:PySem.W.makesIn K zT=true)
  (zlN:PySem.W.findIn K (.ref zT) "__init__" = some (some (.ref zq)))
  (zlO:PySem.W.isFn K (.ref zq)=true)
  (zlP:PySem.W.keepIn K (.ref zT)=true)
  (zlQ:PySem.W.specialIn K (.ref zM) "__getattribute__" = some (some (.builtin "type.__getattribute__")))
  (zlR:PySem.W.readsIn K zM (.type "type")=true)
  (zlS:PySem.W.findCls K (.ref zM) (.type "type") "__init__" = some (.val (.ref zb)))
  (zlT:PySem.W.specialIn K (.ref zO) "__getattribute__" = some (some (.builtin "type.__getattribute__")))
  (zlU:PySem.W.readsIn K zO (.type "type")=true)
  (zlV:PySem.W.findCls K (.ref zO) (.type "type") "__init__" = some (.val (.ref zb)))
  (zlW:PySem.W.kitOne K (.ref zN) (.ref zN)=some true)
  (zlX:PySem.W.kitOne K (.ref zO) (.ref zN)=some false)
  (zlY:PySem.W.kitOne K (.ref zO) (.ref zO)=some true)
  (zlZ:PySem.W.kitOne K (.ref zO) (.ref zP)=some false)
  (zma:PySem.W.kitOne K (.ref zO) (.ref zQ)=some false)
  (zmb:PySem.W.kitOne K (.ref zP) (.ref zN)=some false)
  (zmc:PySem.W.kitOne K (.ref zP) (.ref zP)=some true)
  (zmd:PySem.W.kitOne K (.ref zQ) (.ref zN)=some false)
  (zme:PySem.W.kitOne K (.ref zQ) (.ref zP)=some false)
  (zmf:PySem.W.kitOne K (.ref zQ) (.ref zQ)=some true)
  (zmg:PySem.W.kitOne K (.ref zN) (.ref zM)=some true)
  (zmh:PySem.W.kitOne K (.ref zO) (.ref zM)=some true)
  (zmi:PySem.W.kitOne K (.ref zP) (.ref zM)=some true)
  (zmj:PySem.W.kitOne K (.ref zQ) (.ref zM)=some true)
  (zmk:PySem.W.kitOne K (.ref zR) (.ref zM)=some false)
  (zml:PySem.W.kitOne K (.ref zS) (.ref zM)=some false)
  (zmm:PySem.W.kitOne K (.ref zN) (.ref zS)=some false)
  (zmn:PySem.W.kitOne K (.ref zO) (.ref zS)=some false)
  (zmo:PySem.W.kitOne K (.ref zP) (.ref zS)=some false)
  (zmp:PySem.W.kitOne K (.ref zQ) (.ref zS)=some false)
  (zmq:PySem.W.kitOne K (.ref zR) (.ref zS)=some false)
  (zmr:PySem.W.kitOne K (.ref zS) (.ref zS)=some true)
  (zms:PySem.W.kitOne K (.type "int") (.type "bool")=some false)
  (zmt:PySem.W.specialIn K (.builtin "object.__class__") "__get__" = some (some (.builtin "getset_descriptor.__get__")))
  (zmu:PySem.W.takesIn K (.builtin "object.__class__")=some true)
  (zmv:PySem.W.findIn K (.ref zM) "__class__" = some (some (.builtin "object.__class__")))
  (zmw:PySem.W.mroIn K zM (.type "object")=some true)
  (zmx:PySem.W.findIn K (.ref zN) "__class__" = some (some (.builtin "object.__class__")))
  (zmy:PySem.W.mroIn K zN (.type "object")=some true)
  (zmz:PySem.W.findIn K (.ref zO) "__class__" = some (some (.builtin "object.__class__")))
  (zmA:PySem.W.mroIn K zO (.type "object")=some true)
  (zmB:PySem.W.findIn K (.ref zP) "__class__" = some (some (.builtin "object.__class__")))
  (zmC:PySem.W.mroIn K zP (.type "object")=some true)
  (zmD:PySem.W.findIn K (.ref zQ) "__class__" = some (some (.builtin "object.__class__")))
  (zmE:PySem.W.mroIn K zQ (.type "object")=some true)
  (zmF:PySem.W.findIn K (.ref zR) "__class__" = some (some (.builtin "object.__class__")))
  (zmG:PySem.W.mroIn K zR (.type "object")=some true)
  (zmH:PySem.W.findIn K (.ref zS) "__class__" = some (some (.builtin "object.__class__")))
  (zmI:PySem.W.mroIn K zS (.type "object")=some true)
  : ∃t:ja,Txt K mg t∧mg "law" = some (.ref t.pV):=by
 have F_Row_rows_told:=qE (st:=jt) zgz zgA zgB
 have B_Row_rows_told:=F_Row_rows_told.binds (ps:=["self"]) fun _ _ _ _ _ _ us hl=>match us,hl with | [_],_=>rfl
 have F_Clause_init:=qE (st:=jJ) zgD zgE zgF
 have B_Clause_init:=F_Clause_init.binds (ps:=["self","label","who","act"]) fun _ _ _ _ _ _ us hl=>match us,hl with | [_,_,_,_],_=>rfl
 have F_Clause_rows_told:=qE (st:=qB) zgH zgI zgJ
 have B_Clause_rows_told:=F_Clause_rows_told.binds (ps:=["self"]) fun _ _ _ _ _ _ us hl=>match us,hl with | [_],_=>rfl
 have F_Clause_tail:=qE (st:=jS) zgL zgM zgN
 have B_Clause_tail:=F_Clause_tail.binds (ps:=["self"]) fun _ _ _ _ _ _ us hl=>match us,hl with | [_],_=>rfl
 have F_Duty_init:=qE (st:=j6) zgP zgQ zgR
 have B_Duty_init:=F_Duty_init.binds (ps:=["self","label","who","act","turns","room"]) fun _ _ _ _ _ _ us hl=>match us,hl with | [_,_,_,_,_,_],_=>rfl
 have F_Duty_tail:=qE (st:=j7) zgT zgU zgV
 have B_Duty_tail:=F_Duty_tail.binds (ps:=["self"]) fun _ _ _ _ _ _ us hl=>match us,hl with | [_],_=>rfl
 have F_Leave_tail:=qE (st:=jC) zgX zgY zgZ
 have B_Leave_tail:=F_Leave_tail.binds (ps:=["self"]) fun _ _ _ _ _ _ us hl=>match us,hl with | [_],_=>rfl
 have F_Ban_init:=qE (st:=xt) zhb zhc zhd
 have B_Ban_init:=F_Ban_init.binds (ps:=["self","label","who","act","room"]) fun _ _ _ _ _ _ us hl=>match us,hl with | [_,_,_,_,_],_=>rfl
 have F_Ban_tail:=qE (st:=xn) zhf zhg zhh
 have B_Ban_tail:=F_Ban_tail.binds (ps:=["self"]) fun _ _ _ _ _ _ us hl=>match us,hl with | [_],_=>rfl
 have F_Power_init:=qE (st:=jU) zhj zhk zhl
 have B_Power_init:=F_Power_init.binds (ps:=["self","label","who","act","room"]) fun _ _ _ _ _ _ us hl=>match us,hl with | [_,_,_,_,_],_=>rfl
 have F_Power_tail:=qE (st:=jR) zhn zho zhp
 have B_Power_tail:=F_Power_tail.binds (ps:=["self"]) fun _ _ _ _ _ _ us hl=>match us,hl with | [_],_=>rfl
 have F_Let_init:=qE (st:=xo) zhr zhs zht
 have B_Let_init:=F_Let_init.binds (ps:=["self","name","value"]) fun _ _ _ _ _ _ us hl=>match us,hl with | [_,_,_],_=>rfl
 have F_Let_rows_told:=qE (st:=jw) zhv zhw zhx
 have B_Let_rows_told:=F_Let_rows_told.binds (ps:=["self"]) fun _ _ _ _ _ _ us hl=>match us,hl with | [_],_=>rfl
 have F_Part_init:=qE (st:=j9) zhz zhA zhB
 have B_Part_init:=F_Part_init.binds (ps:=["self","name","rooms","rows"]) fun _ _ _ _ _ _ us hl=>match us,hl with | [_,_,_,_],_=>rfl
 have F_Part_rows_told:=qE (st:=jj) zhD zhE zhF
 have B_Part_rows_told:=F_Part_rows_told.binds (ps:=["self"]) fun _ _ _ _ _ _ us hl=>match us,hl with | [_],_=>rfl
 have F_Part_first_row:=qE (st:=jq) zhH zhI zhJ
 have B_Part_first_row:=F_Part_first_row.binds (ps:=["self"]) fun _ _ _ _ _ _ us hl=>match us,hl with | [_],_=>rfl
 have F_Pact_init:=qE (st:=j8) zhL zhM zhN
 have B_Pact_init:=F_Pact_init.binds (ps:=["self","parties","acts","rooms","whole"]) fun _ _ _ _ _ _ us hl=>match us,hl with | [_,_,_,_,_],_=>rfl
 have F_v_clauses_of:=qE (st:=jm) zhP zhQ zhR
 have B_v_clauses_of:=F_v_clauses_of.binds (ps:=["part"]) fun _ _ _ _ _ _ us hl=>match us,hl with | [_],_=>rfl
 have F_v_parts_of:=qE (st:=jL) zhT zhU zhV
 have B_v_parts_of:=F_v_parts_of.binds (ps:=["part"]) fun _ _ _ _ _ _ us hl=>match us,hl with | [_],_=>rfl
 have F_v_depth_of:=qE (st:=jX) zhX zhY zhZ
 have B_v_depth_of:=F_v_depth_of.binds (ps:=["part"]) fun _ _ _ _ _ _ us hl=>match us,hl with | [_],_=>rfl
 have F_v_parts_within:=qE (st:=qI) zib zic zid
 have B_v_parts_within:=F_v_parts_within.binds (ps:=["part"]) fun _ _ _ _ _ _ us hl=>match us,hl with | [_],_=>rfl
 have F_v_part_named:=qE (st:=jd) zif zig zih
 have B_v_part_named:=F_v_part_named.binds (ps:=["pact","name"]) fun _ _ _ _ _ _ us hl=>match us,hl with | [_,_],_=>rfl
 have F_w_cell_at:=qE (st:=xq) zij zik zil
 have B_w_cell_at:=F_w_cell_at.binds (ps:=["_law_script","_law_k"]) fun _ _ _ _ _ _ us hl=>match us,hl with | [_,_],_=>rfl
 have F_w_mix:=qE (st:=vP) zin zio ziq
 have B_w_mix:=F_w_mix.binds (ps:=["_law_cell","_law_k"]) fun _ _ _ _ _ _ us hl=>match us,hl with | [_,_],_=>rfl
 have F_w_name:=qE (st:=kP) zis zit ziu
 have B_w_name:=F_w_name.binds (ps:=["_law_cell","_law_k"]) fun _ _ _ _ _ _ us hl=>match us,hl with | [_,_],_=>rfl
 have F_w_event:=qE (st:=xu) ziw zix ziy
 have B_w_event:=F_w_event.binds (ps:=["_law_names","_law_cell","_law_label","_law_depth"]) fun _ _ _ _ _ _ us hl=>match us,hl with | [_,_,_,_],_=>rfl
 have F_w_events:=qE (st:=xa) ziA ziB ziC
 have B_w_events:=F_w_events.binds (ps:=["_law_names","_law_script"]) fun _ _ _ _ _ _ us hl=>match us,hl with | [_,_],_=>rfl
 have F_w_header:=qE (st:=xZ) ziE ziF ziG
 have B_w_header:=F_w_header.binds (ps:=["_law_names","_law_cell"]) fun _ _ _ _ _ _ us hl=>match us,hl with | [_,_],_=>rfl
 have F_w_row:=qE (st:=vF) ziI ziJ ziK
 have B_w_row:=F_w_row.binds (ps:=["_law_event_here"]) fun _ _ _ _ _ _ us hl=>match us,hl with | [_],_=>rfl
 have F_w_object:=qE (st:=xQ) ziM ziN ziO
 have B_w_object:=F_w_object.binds (ps:=["_law_event_here"]) fun _ _ _ _ _ _ us hl=>match us,hl with | [_],_=>rfl
 have F_w_whole_part:=qE (st:=ju) ziQ ziR ziS
 have B_w_whole_part:=F_w_whole_part.binds (ps:=["_law_events_here"]) fun _ _ _ _ _ _ us hl=>match us,hl with | [_],_=>rfl
 have F_w_clause:=qE (st:=xi) ziU ziV ziW
 have B_w_clause:=F_w_clause.binds (ps:=["_law_row_here"]) fun _ _ _ _ _ _ us hl=>match us,hl with | [_],_=>rfl
 have F_w_spans:=qE (st:=kz) ziY ziZ zja
 have B_w_spans:=F_w_spans.binds (ps:=["_law_events_here"]) fun _ _ _ _ _ _ us hl=>match us,hl with | [_],_=>rfl
 have F_w_part_right:=qE (st:=jc) zjc zjd zje
 have B_w_part_right:=F_w_part_right.binds (ps:=["_law_part","_law_span","_law_rows_here"]) fun _ _ _ _ _ _ us hl=>match us,hl with | [_,_,_],_=>rfl
 have F_w_within:=qE (st:=jZ) zjg zjh zji
 have B_w_within:=F_w_within.binds (ps:=["_law_part","_law_span","_law_events_here"]) fun _ _ _ _ _ _ us hl=>match us,hl with | [_,_,_],_=>rfl
 have F_w_right:=qE (st:=xr) zjk zjl zjm
 have B_w_right:=F_w_right.binds (ps:=["_law_whole","_law_events_here","_law_spans_here","_law_rows_here"]) fun _ _ _ _ _ _ us hl=>match us,hl with | [_,_,_,_],_=>rfl
 have F_v_law:=qE (st:=kh) zjo zjp zjq
 have B_v_law:=F_v_law.binds (ps:=["_law_script"]) fun _ _ _ _ _ _ us hl=>match us,hl with | [_],_=>rfl
 refine⟨{ yE:=za,yI:=PySem.W.fnOf "rows_told" "Row.rows_told" (qj jt) (qq jt) (z5 jt) .none zY zZ zaa zV zab zac,qO:=zb,xj:=PySem.W.fnOf "__init__" "Clause.__init__" (qj jJ) (qq jJ) (z5 jJ) .none zah zai zaj zae zak zal,jy:=zc,km:=PySem.W.fnOf "rows_told" "Clause.rows_told" (qj qB) (qq qB) (z5 qB) .none zaq zar zas zan zat zau,bf:=zd,bp:=PySem.W.fnOf "tail" "Clause.tail" (qj jS) (qq jS) (z5 jS) .none zaz zaA zaB zaw zaC zaD,ki:=ze,wa:=PySem.W.fnOf "__init__" "Duty.__init__" (qj j6) (qq j6) (z5 j6) .none zaI zaJ zaK zaF zaL zaM,wQ:=zf,gg:=PySem.W.fnOf "tail" "Duty.tail" (qj j7) (qq j7) (z5 j7) .none zaR zaS zaT zaO zaU zaV,vY:=zg,yo:=PySem.W.fnOf "tail" "Leave.tail" (qj jC) (qq jC) (z5 jC) .none zba zbb zbc zaX zbd zbe,kL:=zh,yn:=PySem.W.fnOf "__init__" "Ban.__init__" (qj xt) (qq xt) (z5 xt) .none zbj zbk zbl zbg zbm zbn,yW:=zi,bT:=PySem.W.fnOf "tail" "Ban.tail" (qj xn) (qq xn) (z5 xn) .none zbs zbt zbu zbp zbv zbw,x4:=zj,vW:=PySem.W.fnOf "__init__" "Power.__init__" (qj jU) (qq jU) (z5 jU) .none zbB zbC zbD zby zbE zbF,vG:=zk,ye:=PySem.W.fnOf "tail" "Power.tail" (qj jR) (qq jR) (z5 jR) .none zbK zbL zbM zbH zbN zbO,vA:=zl,yi:=PySem.W.fnOf "__init__" "Let.__init__" (qj xo) (qq xo) (z5 xo) .none zbT zbU zbV zbQ zbW zbX,ky:=zm,vQ:=PySem.W.fnOf "rows_told" "Let.rows_told" (qj jw) (qq jw) (z5 jw) .none zcc zcd zce zbZ zcf zcg,ke:=zn,vh:=PySem.W.fnOf "__init__" "Part.__init__" (qj j9) (qq j9) (z5 j9) .none zcl zcm zcn zci zco zcp,xh:=zo,xE:=PySem.W.fnOf "rows_told" "Part.rows_told" (qj jj) (qq jj) (z5 jj) .none zcu zcv zcw zcr zcx zcy,x3:=zp,kR:=PySem.W.fnOf "first_row" "Part.first_row" (qj jq) (qq jq) (z5 jq) .none zcD zcE zcF zcA zcG zcH,vf:=zq,wZ:=PySem.W.fnOf "__init__" "Pact.__init__" (qj j8) (qq j8) (z5 j8) .none zcM zcN zcO zcJ zcP zcQ,jV:=zr,jK:=PySem.W.fnOf "clauses_of" "clauses_of" (qj jm) (qq jm) (z5 jm) .none zcV zcW zcX zcS zcY zcZ,jD:=zs,jM:=PySem.W.fnOf "parts_of" "parts_of" (qj jL) (qq jL) (z5 jL) .none zde zdf zdg zdb zdh zdi,x5:=zt,xA:=PySem.W.fnOf "depth_of" "depth_of" (qj jX) (qq jX) (z5 jX) .none zdn zdo zdp zdk zdq zdr,xb:=zu,xg:=PySem.W.fnOf "parts_within" "parts_within" (qj qI) (qq qI) (z5 qI) .none zdw zdx zdy zdt zdz zdA,kX:=zv,kQ:=PySem.W.fnOf "part_named" "part_named" (qj jd) (qq jd) (z5 jd) .none zdF zdG zdH zdC zdI zdJ,vm:=zw,vp:=PySem.W.fnOf "_law_cell_at" "_law_cell_at" (qj xq) (qq xq) (z5 xq) .none zdO zdP zdQ zdL zdR zdS,yH:=zx,yJ:=PySem.W.fnOf "_law_mix" "_law_mix" (qj vP) (qq vP) (z5 vP) .none zdX zdY zdZ zdU zea zeb,pW:=zy,pX:=PySem.W.fnOf "_law_name" "_law_name" (qj kP) (qq kP) (z5 kP) .none zeg zeh zei zed zej zek,g6:=zz,gI:=PySem.W.fnOf "_law_event" "_law_event" (qj xu) (qq xu) (z5 xu) .none zep zeq zer zem zes zet,yY:=zA,yZ:=PySem.W.fnOf "_law_events" "_law_events" (qj xa) (qq xa) (z5 xa) .none zey zez zeA zev zeB zeC,yG:=zB,yQ:=PySem.W.fnOf "_law_header" "_law_header" (qj xZ) (qq xZ) (z5 xZ) .none zeH zeI zeJ zeE zeK zeL,mU:=zC,mD:=PySem.W.fnOf "_law_row" "_law_row" (qj vF) (qq vF) (z5 vF) .none zeQ zeR zeS zeN zeT zeU,yB:=zD,yX:=PySem.W.fnOf "_law_object" "_law_object" (qj xQ) (qq xQ) (z5 xQ) .none zeZ zfa zfb zeW zfc zfd,kK:=zE,kJ:=PySem.W.fnOf "_law_whole_part" "_law_whole_part" (qj ju) (qq ju) (z5 ju) .none zfi zfj zfk zff zfl zfm,wz:=zF,vI:=PySem.W.fnOf "_law_clause" "_law_clause" (qj xi) (qq xi) (z5 xi) .none zfr zfs zft zfo zfu zfv,g8:=zG,gA:=PySem.W.fnOf "_law_spans" "_law_spans" (qj kz) (qq kz) (z5 kz) .none zfA zfB zfC zfx zfD zfE,xF:=zH,xP:=PySem.W.fnOf "_law_part_right" "_law_part_right" (qj jc) (qq jc) (z5 jc) .none zfJ zfK zfL zfG zfM zfN,yP:=zI,yK:=PySem.W.fnOf "_law_within" "_law_within" (qj jZ) (qq jZ) (z5 jZ) .none zfS zfT zfU zfP zfV zfW,g7:=zJ,gE:=PySem.W.fnOf "_law_right" "_law_right" (qj xr) (qq xr) (z5 xr) .none zgb zgc zgd zfY zge zgf,pV:=zK,mF:=PySem.W.fnOf "law" "law" (qj kh) (qq kh) (z5 kh) .none zgk zgl zgm zgh zgn zgo,Z0:=zL,jx:=zM,jI:=zN,jh:=zO,xB:=zP,jb:=zQ,vg:=zR,qa:=zS,jF:=zT },?_,PySem.W.mg_of X G zjn⟩
 exact {
  cj:=⟨F_Row_rows_told,B_Row_rows_told⟩,
  ku:=⟨F_Clause_init,B_Clause_init⟩,
  jN:=⟨F_Clause_rows_told,B_Clause_rows_told⟩,
  uA:=⟨F_Clause_tail,B_Clause_tail⟩,
  fZ:=⟨F_Duty_init,B_Duty_init⟩,
  fQ:=⟨F_Duty_tail,B_Duty_tail⟩,
  bD:=⟨F_Leave_tail,B_Leave_tail⟩,
  m9:=⟨F_Ban_init,B_Ban_init⟩,
  dz:=⟨F_Ban_tail,B_Ban_tail⟩,
  bU:=⟨F_Power_init,B_Power_init⟩,
  bR:=⟨F_Power_tail,B_Power_tail⟩,
  dq:=⟨F_Let_init,B_Let_init⟩,
  wC:=⟨F_Let_rows_told,B_Let_rows_told⟩,
  kl:=⟨F_Part_init,B_Part_init⟩,
  xH:=⟨F_Part_rows_told,B_Part_rows_told⟩,
  vS:=⟨F_Part_first_row,B_Part_first_row⟩,
  gT:=⟨F_Pact_init,B_Pact_init⟩,
  qT:=⟨F_v_clauses_of,B_v_clauses_of,PySem.W.mg_of X G zhO⟩,
  qA:=⟨F_v_parts_of,B_v_parts_of,PySem.W.mg_of X G zhS⟩,
  xJ:=⟨F_v_depth_of,B_v_depth_of,PySem.W.mg_of X G zhW⟩,
  jY:=⟨F_v_parts_within,B_v_parts_within,PySem.W.mg_of X G zia⟩,
  jl:=⟨F_v_part_named,B_v_part_named,PySem.W.mg_of X G zie⟩,
  jg:=⟨F_w_cell_at,B_w_cell_at,PySem.W.mg_of X G zii⟩,
  jT:=⟨F_w_mix,B_w_mix,PySem.W.mg_of X G zim⟩,
  d7:=⟨F_w_name,B_w_name,PySem.W.mg_of X G zir⟩,
  fo:=⟨F_w_event,B_w_event,PySem.W.mg_of X G ziv⟩,
  gU:=⟨F_w_events,B_w_events,PySem.W.mg_of X G ziz⟩,
  gR:=⟨F_w_header,B_w_header,PySem.W.mg_of X G ziD⟩,
  sq:=⟨F_w_row,B_w_row,PySem.W.mg_of X G ziH⟩,
  gL:=⟨F_w_object,B_w_object,PySem.W.mg_of X G ziL⟩,
  kM:=⟨F_w_whole_part,B_w_whole_part,PySem.W.mg_of X G ziP⟩,
  vi:=⟨F_w_clause,B_w_clause,PySem.W.mg_of X G ziT⟩,
  fi:=⟨F_w_spans,B_w_spans,PySem.W.mg_of X G ziX⟩,
  js:=⟨F_w_part_right,B_w_part_right,PySem.W.mg_of X G zjb⟩,
  gS:=⟨F_w_within,B_w_within,PySem.W.mg_of X G zjf⟩,
  wM:=⟨F_w_right,B_w_right,PySem.W.mg_of X G zjj⟩,
  aH:=⟨F_v_law,B_v_law,PySem.W.mg_of X G zjn⟩,
  wU:=PySem.W.mg_none_of X G zjr,
  bh:=PySem.W.mg_none_of X G zjs,
  we:=PySem.W.mg_none_of X G zjt,
  pQ:=PySem.W.mg_none_of X G zju,
  iu:=PySem.W.mg_none_of X G zjv,
  qM:=PySem.W.mg_none_of X G zjw,
  su:=PySem.W.mg_none_of X G zjx,
  tL:=PySem.W.mg_none_of X G zjy,
  ZE:=PySem.W.mg_none_of X G zjz,
  JA:=PySem.W.mg_of X G zgp,
  pL:=PySem.W.mg_of X G zgq,
  sV:=PySem.W.mg_of X G zgr,
  mN:=PySem.W.mg_of X G zgs,
  i6:=PySem.W.mg_of X G zgt,
  ua:=PySem.W.mg_of X G zgu,
  Z7:=PySem.W.mg_of X G zgv,
  wN:=PySem.W.mg_of X G zgw,
  sW:=PySem.W.mg_of X G zgx,
  cP:=⟨zjA,zjB,zjC,zjD⟩,
  bK:=zjE,
  y4:=zjF,
  gQ:=zjG,
  y7:=zjH,
  bV:=zjI,
  cE:=⟨zjJ,zjK,zjL,zjM⟩,
  tN:=⟨zjN,zjO,zjP,zjQ⟩,
  mh:=zjR,
  bW:=zjS,
  pO:=zjT,
  bY:=zjU,
  mf:=zjV,
  uZ:=⟨zjW,zjX,zjY,zjZ⟩,
  pS:=⟨zka,zkb,zgV⟩,
  wK:=⟨zkc,zkd,zgJ⟩,
  rg:=⟨zke,zkf,zkg,zkh⟩,
  pI:=zki,
  gJ:=zkj,
  bG:=zkk,
  gX:=zkl,
  pE:=zkm,
  bJ:=⟨zkn,zko,zgZ⟩,
  dX:=⟨zkp,zkq,zkr,zks⟩,
  wx:=⟨zkt,zku,zgJ⟩,
  ia:=⟨zkv,zkw,zkx,zky⟩,
  dY:=zkz,
  pT:=zkA,
  mw:=zkB,
  pN:=zkC,
  dG:=zkD,
  sR:=⟨zkE,zkF,zkG,zkH⟩,
  mv:=⟨zkI,zkJ,zhh⟩,
  yp:=⟨zkK,zkL,zgJ⟩,
  rh:=⟨zkM,zkN,zkO,zkP⟩,
  p8:=zkQ,
  gW:=zkR,
  bB:=zkS,
  gY:=zkT,
  fz:=zkU,
  dW:=⟨zkV,zkW,zkX,zkY⟩,
  bX:=⟨zkZ,zla,zhp⟩,
  wy:=⟨zlb,zlc,zgJ⟩,
  bS:=⟨zld,zle,zlf,zlg⟩,
  gK:=zlh,
  yD:=zli,
  i8:=⟨zlj,zlk,zll,zlm⟩,
  yf:=⟨zln,zlo,zhx⟩,
  xY:=⟨zlp,zlq,zlr,zls⟩,
  yC:=zlt,
  wI:=zlu,
  yU:=zlv,
  yM:=⟨zlw,zlx,zly,zlz⟩,
  kG:=⟨zlA,zlB,zhF⟩,
  wV:=⟨zlC,zlD,zhJ⟩,
  gO:=⟨zlE,zlF,zlG,zlH⟩,
  pA:=zlI,
  y8:=zlJ,
  bH:=zlK,
  wO:=zlL,
  uQ:=⟨zlM,zlN,zlO,zlP⟩,
  fX:=⟨zlQ,zlR,zlS,zgF⟩,
  rQ:=⟨zlT,zlU,zlV,zgF⟩,
  pM:=zlW,
  br:=zlX,
  gd:=zlY,
  pC:=zlZ,
  gc:=zma,
  mz:=zmb,
  dr:=zmc,
  bZ:=zmd,
  pU:=zme,
  gr:=zmf,
  gm:=zmg,
  y1:=zmh,
  bu:=zmi,
  y3:=zmj,
  ba:=zmk,
  gu:=zml,
  pD:=zmm,
  bo:=zmn,
  mq:=zmo,
  bQ:=zmp,
  wJ:=zmq,
  x6:=zmr,
  gs:=zms,
  fD:=zmt,
  cA:=zmu,
  uj:=⟨zmv,zmw⟩,
  nB:=⟨zmx,zmy⟩,
  lT:=⟨zmz,zmA⟩,
  aV:=⟨zmB,zmC⟩,
  lN:=⟨zmD,zmE⟩,
  tW:=⟨zmF,zmG⟩,
  yN:=⟨zmH,zmI⟩ }
end My
theorem PySem.W.Fast.tw10165927483101995026:True:=trivial
theorem PySem.W.Fast.tw10490918783121418799:True:=trivial
theorem PySem.W.Fast.tw10607849033930873042:True:=trivial
theorem PySem.W.Fast.tw11042810190704411824:True:=trivial
theorem PySem.W.Fast.tw11281711418481356505:True:=trivial
theorem PySem.W.Fast.tw11368788126425722941:True:=trivial
theorem PySem.W.Fast.tw13084407227051443353:True:=trivial
theorem PySem.W.Fast.tw1312310151467197533:True:=trivial
theorem PySem.W.Fast.tw13294923109454863088:True:=trivial
theorem PySem.W.Fast.tw14551911242605116069:True:=trivial
theorem PySem.W.Fast.tw14767385348475978500:True:=trivial
theorem PySem.W.Fast.tw14775517562566637157:True:=trivial
theorem PySem.W.Fast.tw14868111553210996237:True:=trivial
theorem PySem.W.Fast.tw14890906674148346143:True:=trivial
theorem PySem.W.Fast.tw15151587138450583672:True:=trivial
theorem PySem.W.Fast.tw15233612988140720896:True:=trivial
theorem PySem.W.Fast.tw15895542609609531758:True:=trivial
theorem PySem.W.Fast.tw15969095716684535793:True:=trivial
theorem PySem.W.Fast.tw16299851397123782251:True:=trivial
theorem PySem.W.Fast.tw16369848828282035537:True:=trivial
theorem PySem.W.Fast.tw16931341096718564562:True:=trivial
theorem PySem.W.Fast.tw169973346786229241:True:=trivial
theorem PySem.W.Fast.tw17396854719843543715:True:=trivial
theorem PySem.W.Fast.tw17736807578437233564:True:=trivial
theorem PySem.W.Fast.tw17998824419252602236:True:=trivial
theorem PySem.W.Fast.tw18207300514019510038:True:=trivial
theorem PySem.W.Fast.tw1841462130008510047:True:=trivial
theorem PySem.W.Fast.tw2463882769476096200:True:=trivial
theorem PySem.W.Fast.tw2824181766241640359:True:=trivial
theorem PySem.W.Fast.tw2944732911636835578:True:=trivial
theorem PySem.W.Fast.tw3302646282283987000:True:=trivial
theorem PySem.W.Fast.tw3533468975363668841:True:=trivial
theorem PySem.W.Fast.tw3695752032798798345:True:=trivial
theorem PySem.W.Fast.tw4279420852602474995:True:=trivial
theorem PySem.W.Fast.tw4355519785879024795:True:=trivial
theorem PySem.W.Fast.tw4579522927360610322:True:=trivial
theorem PySem.W.Fast.tw4864448997329928819:True:=trivial
theorem PySem.W.Fast.tw494820975980888753:True:=trivial
theorem PySem.W.Fast.tw4982225263681770843:True:=trivial
theorem PySem.W.Fast.tw5185803965456945966:True:=trivial
theorem PySem.W.Fast.tw5368719261565033984:True:=trivial
theorem PySem.W.Fast.tw6271704677099277262:True:=trivial
theorem PySem.W.Fast.tw6574545307654115474:True:=trivial
theorem PySem.W.Fast.tw6846016338596533403:True:=trivial
theorem PySem.W.Fast.tw6938030175713668403:True:=trivial
theorem PySem.W.Fast.tw7243491206207096234:True:=trivial
theorem PySem.W.Fast.tw7337633775354848506:True:=trivial
theorem PySem.W.Fast.tw8143574292918523760:True:=trivial
theorem PySem.W.Fast.tw8370002439266949890:True:=trivial
theorem PySem.W.Fast.tw8496987284595777061:True:=trivial
theorem PySem.W.Fast.tw8564149803784852047:True:=trivial
theorem PySem.W.Fast.tw8776738087015970583:True:=trivial
theorem PySem.W.Fast.tw9547898382976121224:True:=trivial
theorem PySem.W.Fast.tw9783921367329590892:True:=trivial
open PySem PySem.W PyProof.Rows
set_option maxRecDepth 100000 in
set_option maxHeartbeats 0 in
theorem PySem.Challenge.cw_pactway_k22_parts_told_holds : PySem.Challenge.rw_pactway_k22_parts_told.Holds := by
 w_on;o_law;k_head;(case hw=>w_witness2)
 k_fill
 refine L2.aB (l:=PySem.Challenge.rw_pactway_k22_parts_told) (n:=63) (k:=13) (x:="_law_script") (CX:=L2.jO) (sp:=My.ai) rfl (by decide) rfl ⟨rfl,by decide,by decide⟩ (fun w h Y=>PySem.W.kIn_of Y) ?F ?S ?C
 case F=>
  intro w mg fa h KX G hmg
  have T:∃t:My.ja,My.Txt (L2.Vc KX) mg t∧mg "law" = some (.ref t.pV):=by
   dsimp only[L2.Vc]
   refine' My.Jk KX G ?za_ ?zb_ ?zc_ ?zd_ ?ze_ ?zf_ ?zg_ ?zh_ ?zi_ ?zj_ ?zk_ ?zl_ ?zm_ ?zn_ ?zo_ ?zp_ ?zq_ ?zr_ ?zs_ ?zt_ ?zu_ ?zv_ ?zw_ ?zx_ ?zy_ ?zz_ ?zA_ ?zB_ ?zC_ ?zD_ ?zE_ ?zF_ ?zG_ ?zH_ ?zI_ ?zJ_ ?zK_ ?zL_ ?zM_ ?zN_ ?zO_ ?zP_ ?zQ_ ?zR_ ?zS_ ?zT_ ?zU_ ?zV_ ?zW_ ?zX_ ?zY_ ?zZ_ ?zaa_ ?zab_ ?zac_ ?zad_ ?zae_ ?zaf_ ?zag_ ?zah_ ?zai_ ?zaj_ ?zak_ ?zal_ ?zam_ ?zan_ ?zao_ ?zap_ ?zaq_ ?zar_ ?zas_ ?zat_ ?zau_ ?zav_ ?zaw_ ?zax_ ?zay_ ?zaz_ ?zaA_ ?zaB_ ?zaC_ ?zaD_ ?zaE_ ?zaF_ ?zaG_ ?zaH_ ?zaI_ ?zaJ_ ?zaK_ ?zaL_ ?zaM_ ?zaN_ ?zaO_ ?zaP_ ?zaQ_ ?zaR_ ?zaS_ ?zaT_ ?zaU_ ?zaV_ ?zaW_ ?zaX_ ?zaY_ ?zaZ_ ?zba_ ?zbb_ ?zbc_ ?zbd_ ?zbe_ ?zbf_ ?zbg_ ?zbh_ ?zbi_ ?zbj_ ?zbk_ ?zbl_ ?zbm_ ?zbn_ ?zbo_ ?zbp_ ?zbq_ ?zbr_ ?zbs_ ?zbt_ ?zbu_ ?zbv_ ?zbw_ ?zbx_ ?zby_ ?zbz_ ?zbA_ ?zbB_ ?zbC_ ?zbD_ ?zbE_ ?zbF_ ?zbG_ ?zbH_ ?zbI_ ?zbJ_ ?zbK_ ?zbL_ ?zbM_ ?zbN_ ?zbO_ ?zbP_ ?zbQ_ ?zbR_ ?zbS_ ?zbT_ ?zbU_ ?zbV_ ?zbW_ ?zbX_ ?zbY_ ?zbZ_ ?zca_ ?zcb_ ?zcc_ ?zcd_ ?zce_ ?zcf_ ?zcg_ ?zch_ ?zci_ ?zcj_ ?zck_ ?zcl_ ?zcm_ ?zcn_ ?zco_ ?zcp_ ?zcq_ ?zcr_ ?zcs_ ?zct_ ?zcu_ ?zcv_ ?zcw_ ?zcx_ ?zcy_ ?zcz_ ?zcA_ ?zcB_ ?zcC_ ?zcD_ ?zcE_ ?zcF_ ?zcG_ ?zcH_ ?zcI_ ?zcJ_ ?zcK_ ?zcL_ ?zcM_ ?zcN_ ?zcO_ ?zcP_ ?zcQ_ ?zcR_ ?zcS_ ?zcT_ ?zcU_ ?zcV_ ?zcW_ ?zcX_ ?zcY_ ?zcZ_ ?zda_ ?zdb_ ?zdc_ ?zdd_ ?zde_ ?zdf_ ?zdg_ ?zdh_ ?zdi_ ?zdj_ ?zdk_ ?zdl_ ?zdm_ ?zdn_ ?zdo_ ?zdp_ ?zdq_ ?zdr_ ?zds_ ?zdt_ ?zdu_ ?zdv_ ?zdw_ ?zdx_ ?zdy_ ?zdz_ ?zdA_ ?zdB_ ?zdC_ ?zdD_ ?zdE_ ?zdF_ ?zdG_ ?zdH_ ?zdI_ ?zdJ_ ?zdK_ ?zdL_ ?zdM_ ?zdN_ ?zdO_ ?zdP_ ?zdQ_ ?zdR_ ?zdS_ ?zdT_ ?zdU_ ?zdV_ ?zdW_ ?zdX_ ?zdY_ ?zdZ_ ?zea_ ?zeb_ ?zec_ ?zed_ ?zee_ ?zef_ ?zeg_ ?zeh_ ?zei_ ?zej_ ?zek_ ?zel_ ?zem_ ?zen_ ?zeo_ ?zep_ ?zeq_ ?zer_ ?zes_ ?zet_ ?zeu_ ?zev_ ?zew_ ?zex_ ?zey_ ?zez_ ?zeA_ ?zeB_ ?zeC_ ?zeD_ ?zeE_ ?zeF_ ?zeG_ ?zeH_ ?zeI_ ?zeJ_ ?zeK_ ?zeL_ ?zeM_ ?zeN_ ?zeO_ ?zeP_ ?zeQ_ ?zeR_ ?zeS_ ?zeT_ ?zeU_ ?zeV_ ?zeW_ ?zeX_ ?zeY_ ?zeZ_ ?zfa_ ?zfb_ ?zfc_ ?zfd_ ?zfe_ ?zff_ ?zfg_ ?zfh_ ?zfi_ ?zfj_ ?zfk_ ?zfl_ ?zfm_ ?zfn_ ?zfo_ ?zfp_ ?zfq_ ?zfr_ ?zfs_
   (case za_ | zb_ | zc_ | zd_ | ze_ | zf_ | zg_ | zh_ | zi_ | zj_ | zk_ | zl_ | zm_ | zn_ | zo_ | zp_ | zq_ | zr_ | zs_ | zt_ | zu_ | zv_ | zw_ | zx_ | zy_ | zz_ | zA_ | zB_ | zC_ | zD_ | zE_ | zF_ | zG_ | zH_ | zI_ | zJ_ | zK_ | zL_ | zM_ | zN_ | zO_ | zP_ | zQ_ | zR_ | zS_ | zT_ | zU_ | zV_ | zW_ | zX_ | zY_ | zZ_ | zaa_ | zab_ | zac_ | zad_ | zae_ | zaf_ | zag_ | zah_ | zai_ | zaj_ | zak_ | zal_ | zam_ | zan_ | zao_ | zap_ | zaq_ | zar_ | zas_ | zat_ | zau_ | zav_ | zaw_ | zax_ | zay_ | zaz_ | zaA_ | zaB_ | zaC_ | zaD_ | zaE_ | zaF_ | zaG_ | zaH_ | zaI_ | zaJ_ | zaK_ | zaL_ | zaM_ | zaN_ | zaO_ | zaP_ | zaQ_ | zaR_ | zaS_ | zaT_ | zaU_ | zaV_ | zaW_ | zaX_ | zaY_ | zaZ_ | zba_ | zbb_ | zbc_ | zbd_ | zbe_ | zbf_ | zbg_ | zbh_ | zbi_ | zbj_ | zbk_ | zbl_ | zbm_ | zbn_ | zbo_ | zbp_ | zbq_ | zbr_ | zbs_ | zbt_ | zbu_ | zbv_ | zbw_ | zbx_ | zby_ | zbz_ | zbA_ | zbB_ | zbC_ | zbD_ | zbE_ | zbF_ | zbG_ | zbH_ | zbI_ | zbJ_ | zbK_ | zbL_ | zbM_ | zbN_ | zbO_ | zbP_ | zbQ_ | zbR_ | zbS_ | zbT_ | zbU_ | zbV_ | zbW_ | zbX_ | zbY_ | zbZ_ | zca_ | zcb_ | zcc_ | zcd_ | zce_ | zcf_ | zcg_ | zch_ | zci_ | zcj_ | zck_ | zcl_ | zcm_ | zcn_ | zco_ | zcp_ | zcq_ | zcr_ | zcs_ | zct_ | zcu_ | zcv_ | zcw_ | zcx_ | zcy_ | zcz_ | zcA_ | zcB_ | zcC_ | zcD_ | zcE_ | zcF_ | zcG_ | zcH_ | zcI_ | zcJ_ | zcK_ | zcL_ | zcM_ | zcN_ | zcO_ | zcP_ | zcQ_ | zcR_ | zcS_ | zcT_ | zcU_ | zcV_ | zcW_ | zcX_ | zcY_ | zcZ_ | zda_ | zdb_ | zdc_ | zdd_ | zde_ | zdf_ | zdg_ | zdh_ | zdi_ | zdj_ | zdk_ | zdl_ | zdm_ | zdn_ | zdo_ | zdp_ | zdq_ | zdr_ | zds_ | zdt_ | zdu_ | zdv_ | zdw_ | zdx_ | zdy_ | zdz_ | zdA_ | zdB_ | zdC_ | zdD_ | zdE_ | zdF_ | zdG_ | zdH_ | zdI_ | zdJ_ | zdK_ | zdL_ | zdM_ | zdN_ | zdO_ | zdP_ | zdQ_ | zdR_ | zdS_ | zdT_ | zdU_ | zdV_ | zdW_ | zdX_ | zdY_ | zdZ_ | zea_ | zeb_ | zec_ | zed_ | zee_ | zef_ | zeg_ | zeh_ | zei_ | zej_ | zek_ | zel_ | zem_ | zen_ | zeo_ | zep_ | zeq_ | zer_ | zes_ | zet_ | zeu_ | zev_ | zew_ | zex_ | zey_ | zez_ | zeA_ | zeB_ | zeC_ | zeD_ | zeE_ | zeF_=>k_is)
   (case zeG_ | zeH_ | zeI_ | zeJ_ | zeK_ | zeL_ | zeM_ | zeN_ | zeO_ | zeP_ | zeQ_ | zeR_ | zeS_ | zeT_ | zeU_ | zeV_ | zeW_ | zeX_ | zeY_ | zeZ_ | zfa_ | zfb_ | zfc_=>kit_is)
   (case zfd_ | zfe_ | zff_ | zfg_ | zfh_ | zfi_ | zfj_ | zfk_ | zfl_ | zfm_ | zfn_ | zfo_ | zfp_ | zfq_ | zfr_ | zfs_=>k_is)
  obtain⟨t,T,hl⟩:=T
  have e0:=hmg.symm.trans hl
  cases e0
  exact⟨_,My.oj T,fun base kb nb=>My.en T⟩
 case S=>exact fun K H a ns hl hO hS=>My.ow hl hO hS
 case C=>exact fun _ _ _ _ z=>z
