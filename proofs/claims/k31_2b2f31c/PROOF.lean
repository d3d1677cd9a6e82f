import PyProof.Rows.All
import Wide.All
import OpenK.AllK
import Wide.FinOn
import PyProof.EqAt
import PyProof.EqKinds
import PyProof.TupleCall
import Lean
import PyProof.SetNew
import PyProof.SetRoads
import PySem.Challenge.RW_pactway_k31_scopes
set_option Elab.async false
set_option linter.all false
set_option maxRecDepth 100000
namespace L2
open PySem PySem.Spec PyProof.Rows
noncomputable abbrev Key:=Sum Int Str
noncomputable def rE:Key→Value→Bool
 | .inl k,v=>Value.isInt k v
 | .inr x,v=>Value.isStrOf x v
noncomputable def By (w:World):Key→Int
 | .inl k=>hashInt k
 | .inr x=>hashStr w x
theorem xq:∀{k:Key} {v:Value},rE k v=true→(∃i t,k=Sum.inl i∧v=Value.int i t)∨(∃x t,k=Sum.inr x∧v=Value.str x t)
 | .inl i,v,h=>by
  obtain⟨t,e⟩:=Value.isInt_shape (k:=i) (v:=v) h
  exact .inl ⟨i,t,rfl,e⟩
 | .inr x,v,h=>by
  obtain⟨t,e⟩:=Value.isStrOf_shape (x:=x) (v:=v) h
  exact .inr ⟨x,t,rfl,e⟩
theorem QQ (i:Int) (t:Tok):rE (.inl i) (.int i t)=true:=by simp [rE,Value.isInt]
theorem QJ (x:Str) (t:Tok):rE (.inr x) (.str x t)=true:=by simp [rE,Value.isStrOf]
theorem WE (a b:Int):decide ((Sum.inl a:Key)=Sum.inl b)=(a == b):=by
 by_cases e:a=b
 ·subst e;simp
 ·have h:¬(Sum.inl a:Key)=Sum.inl b:=fun q=>e (Sum.inl.inj q)
  rw[decide_eq_false h]
  exact(beq_eq_false_iff_ne.mpr e).symm
theorem W2 (a b:Str):decide ((Sum.inr a:Key)=Sum.inr b)=decide (a=b):=by
 by_cases e:a=b
 ·subst e;simp
 ·have h:¬(Sum.inr a:Key)=Sum.inr b:=fun q=>e (Sum.inr.inj q)
  rw[decide_eq_false h,decide_eq_false e]
theorem WA (a:Int) (b:Str):decide ((Sum.inl a:Key)=Sum.inr b)=false:=decide_eq_false (fun q=>nomatch q)
theorem W0 (a:Str) (b:Int):decide ((Sum.inr a:Key)=Sum.inl b)=false:=decide_eq_false (fun q=>nomatch q)
noncomputable def xp (prog:Program) (w:World):PySem.KeyKind prog w Key where
 is:=rE
 hash:=By w
 inj:=fun v a b ha hb=>by
  rcases xq ha with ⟨i,t,rfl,rfl⟩ | ⟨x,t,rfl,rfl⟩
  ·rcases xq hb with ⟨j,u,rfl,e⟩ | ⟨y,u,rfl,e⟩
   ·injection e with e1 _;rw[e1]
   ·exact nomatch e
  ·rcases xq hb with ⟨j,u,rfl,e⟩ | ⟨y,u,rfl,e⟩
   ·exact nomatch e
   ·injection e with e1 _;rw[e1]
 byValue:=fun k v h=>by
  rcases xq h with ⟨i,t,rfl,rfl⟩ | ⟨x,t,rfl,rfl⟩<;>rfl
 pyHash:=fun hv h=>by
  rcases xq hv with ⟨i,t,rfl,rfl⟩ | ⟨x,t,rfl,rfl⟩
  ·exact wpAny_pyHash_int h
  ·exact wpAny_pyHash_str h
 eqBool:=fun hu hv h=>by
  rcases xq hu with ⟨i,t,rfl,rfl⟩ | ⟨x,t,rfl,rfl⟩
  ·rcases xq hv with ⟨j,u,rfl,rfl⟩ | ⟨y,u,rfl,rfl⟩
   ·rw[WE] at h;exact wpAny_eqBool_int h
   ·rw[WA] at h;exact SeqAt.EqAt.int_str i t y u _ _ _ _ h
  ·rcases xq hv with ⟨j,u,rfl,rfl⟩ | ⟨y,u,rfl,rfl⟩
   ·rw[W0] at h;exact SeqAt.EqAt.str_int x t j u _ _ _ _ h
   ·rw[W2] at h;exact wpAny_eqBool_str h
 «strs»:=fun k x t v h=>by
  rcases xq h with ⟨i,u,rfl,e⟩ | ⟨y,u,rfl,e⟩
  ·exact nomatch e
  ·injection e with e1 _
   subst e1
   cases v<;>rfl
theorem i3 (prog:Program) (w:World) (i:Int) (t:Tok):(xp prog w).is (.inl i) (.int i t)=true:=QQ i t
theorem i4 (prog:Program) (w:World) (x:Str) (t:Tok):(xp prog w).is (.inr x) (.str x t)=true:=QJ x t
end L2
namespace L2
open PySem PySem.Spec PyProof.Rows
inductive V where
 | non | bl (b:Bool) | int (i:Int) | str (x:Str) | byt (b:Array UInt8) | flt (b:UInt64) | ref (a:Addr) | ty (n:String)
 deriving DecidableEq
noncomputable def RelV:V→Value→Prop
 | .non,u=>u=Value.none
 | .bl b,u=>u=Value.bool b
 | .int i,u=>∃t,u=Value.int i t
 | .str x,u=>∃t,u=Value.str x t
 | .byt b,u=>∃t,u=Value.bytes b t
 | .flt b,u=>∃t,u=Value.float b t
 | .ref a,u=>u=Value.ref a
 | .ty n,u=>u=Value.type n
noncomputable abbrev Vals:List V→List Value→Prop:=Paired RelV
theorem Vals.length {xs:List V} {us:List Value} (r:Vals xs us):xs.length=us.length:=Paired.length r
theorem Vals.get:∀{xs:List V} {us:List Value} {i:Nat} {x:V},Vals xs us→xs[i]?=some x→∃u,us[i]?=some u∧RelV x u
 | _,_,_,_,.nil,e=>by simp at e
 | _,_,0,_,.cons r _,e=>by simp at e;subst e;exact⟨_,rfl,r⟩
 | _,_,i + 1,x,.cons _ t,e=>by
  obtain⟨u,h1,h2⟩:=Vals.get (i:=i) (x:=x) t (by simpa using e)
  exact⟨u,by simpa using h1,h2⟩
theorem Vals.set {x:V} {u:Value} (r:RelV x u):∀{xs:List V} {us:List Value} (i:Nat),Vals xs us→Vals (xs.set i x) (us.set i u)
 | _,_,_,.nil=>.nil
 | _,_,0,.cons _ t=>.cons r t
 | _,_,i + 1,.cons q t=>.cons q (Vals.set r i t)
theorem Vals.append:∀{xs ys:List V} {us ws:List Value},Vals xs us→Vals ys ws→Vals (xs ++ ys) (us ++ ws)
 | _,_,_,_,.nil,s=>s
 | _,_,_,_,.cons r t,s=>.cons r (Vals.append t s)
theorem Vals.take:∀{xs:List V} {us:List Value} (n:Nat),Vals xs us→Vals (xs.take n) (us.take n)
 | _,_,0,_=>.nil
 | _,_,_ + 1,.nil=>.nil
 | _,_,n + 1,.cons r t=>.cons r (Vals.take n t)
theorem Vals.drop:∀{xs:List V} {us:List Value} (n:Nat),Vals xs us→Vals (xs.drop n) (us.drop n)
 | _,_,0,r=>r
 | _,_,_ + 1,.nil=>.nil
 | _,_,n + 1,.cons _ t=>Vals.drop n t
noncomputable def yK:Option V→Option Value→Prop
 | some v,some u=>RelV v u
 | none,none=>True
 | _,_=>False
noncomputable def KV {κ:Type}:List (κ × V)→List (κ × Value)→Prop:=Paired fun (p:κ × V) (q:κ × Value)=>p.1=q.1∧RelV p.2 q.2
noncomputable def kV:Key→V
 | .inl i=>.int i
 | .inr x=>.str x
inductive HO where
 | lst (xs:List V)
 | tup (xs:List V)
 | dK (kvs:List (Key × V)) | dT (kvs:List (List Key × V))
 | set (S:Int→Bool) (n:Nat)
 | ins (C dx:Addr) (fs:List (Str × V))
 | own (x:Addr)
 | xd (fs:List (Str × V))
 | met (f x:Addr)
 | rng (lo hi:Int)
 | frz (o:Obj) (u:HO)
 | tbl (ps:Array Value)
 | ext (φ:Heap→Prop)
noncomputable abbrev Hp:=Addr→Option HO
noncomputable def upd (H:Hp) (a:Addr) (o:HO):Hp:=fun b=>if b=a then some o else H b
theorem qy {H:Hp} {a:Addr} {o:HO}:upd H a o a=some o:=by unfold upd;rw[if_pos rfl]
theorem qW {H:Hp} {a b:Addr} {o:HO} (h:b≠a):upd H a o b=H b:=by unfold upd;rw[if_neg h]
theorem gA {H:Hp} {a:Addr} {o u:HO}:upd (upd H a o) a u=upd H a u:=by
 funext b;unfold upd;split<;>rfl
theorem lV {H:Hp} {a b:Addr} {o u:HO} (h:H a=some o) (h':H b=some u) (d:o≠u):a≠b:=by
 intro e;subst e;rw[h] at h';exact d (Option.some.inj h')
theorem qx {H:Hp} {a b:Addr} {o:HO} (h:H a=some o) (h':H b=none):a≠b:=by
 intro e;subst e;rw[h] at h';cases h'
section
variable (P:Program) (w:World)
noncomputable def xk (H:Hp) (h:Heap) (a:Addr):HO→Prop
 | .lst xs=>xs.length≤sizeLine∧∃(its:List Value) (n:Nat),Vals xs its∧h.get? a=some { cls:=.type "list",data:=.seq its.toArray n }
 | .tup xs=>xs.length≤sizeLine∧∃its:List Value,Vals xs its∧IsTup h a its.toArray
 | .dK kvs=>kvs.length≤sizeLine∧(a == sysModules)=false∧∃vs,KV kvs vs∧h.DictOf (xp P w) a vs
 | .dT kvs=>kvs.length≤sizeLine∧(a == sysModules)=false∧∃xs:List (List Key × Addr × Value),
   Paired (fun (p:List Key × V) (q:List Key × Addr × Value)=>p.1=q.1∧H q.2.1=some (.tup (p.1.map kV))∧RelV p.2 q.2.2) kvs xs∧
   ∃o es ep,h.get? a=some o∧o.ExactDict∧o.data=.dict es ep∧es.toList=xs.map (entryOfKey (tupleKind (xp P w)))∧(xs.map (·.1)).Nodup
 | .set S n=>h.SetOf (intKind P w) a S n
 | .ins C dx fs=>H dx=some (.own a)∧fs.length≤1000∧dx≠a∧h.get? a=some (PySem.W.instObj C dx)∧
   ∃mA,h.Ns1 dx mA∧(∀f,yK (fs.lookup f) (mA f))∧PySem.Within mA (fs.map (·.1))
 | .own _=>∃o,h.get? a=some o
 | .xd fs=>∃mA,h.Ns1 a mA∧∀f,yK (fs.lookup f) (mA f)
 | .rng lo hi=>∃t u v,h.get? a=some { cls:=.type "range",data:=.fields #[.int lo t,.int hi u,.int 1 v] }
 | .frz o u=>h.get? a=some o∧xk H h a u
 | .tbl ps=>h.get? a=some { cls:=.none,data:=.fields ps }
 | .met f x=>h.get? a=some (PySem.W.methodObj (.ref f) (.ref x))
 | .ext φ=>φ h∧(∃o,h.get? a=some o)∧∀h1 h2:Heap,φ h1→(∀o,h1.get? a=some o→h2.get? a=some o)→φ h2
noncomputable def bC (H:Hp) (h:Heap):Prop:=∀a o,H a=some o→xk P w H h a o
end
section
variable {P:Program} {w:World} {H H':Hp} {h h':Heap} {a:Addr} {o:HO}
theorem xk.lt (x:xk P w H h a o):a < h.objs.size:=by
 cases o with
 | lst xs=>obtain⟨_,_,_,_,e⟩:=x;exact Heap.lt_size e
 | tup xs=>obtain⟨_,_,_,p⟩:=x;exact p.lt
 | dK kvs=>obtain⟨_,_,_,_,o,_,_,e,_⟩:=x;exact Heap.lt_size e
 | dT kvs=>obtain⟨_,_,_,_,o,_,_,e,_⟩:=x;exact Heap.lt_size e
 | set S n=>obtain⟨o,_,_,_,e,_⟩:=x;exact Heap.lt_size e
 | ins C dx fs=>obtain⟨_,_,_,e,_⟩:=x;exact Heap.lt_size e
 | own y=>obtain⟨_,e⟩:=x;exact Heap.lt_size e
 | xd fs=>obtain⟨_,⟨_,_,_,e,_⟩,_⟩:=x;exact Heap.lt_size e
 | rng lo hi=>obtain⟨_,_,_,e⟩:=x;exact Heap.lt_size e
 | frz ob u=>obtain⟨e,_⟩:=x;exact Heap.lt_size e
 | tbl ps=>exact Heap.lt_size (show h.get? a=some _ from x)
 | met f y=>exact Heap.lt_size (show h.get? a=some _ from x)
 | ext φ=>obtain⟨_,⟨_,e⟩,_⟩:=x;exact Heap.lt_size e
theorem Paired.JA {α β:Type} {F G:α→β→Prop}:∀{l₁:List α} {l₂:List β},Paired F l₁ l₂→(∀a b,F a b→G a b)→Paired G l₁ l₂
 | _,_,.nil,_=>.nil
 | _,_,.cons r t,f=>.cons (f _ _ r) (Paired.JA t f)
theorem Paired.imp' {α β:Type} {F G:α→β→Prop} (f:∀a b,F a b→G a b) {l₁:List α} {l₂:List β} (r:Paired F l₁ l₂):Paired G l₁ l₂:=Paired.JA r f
theorem xk.sE (x:xk P w H h a o) (k:∀b u,(b=a∨H b=some (.own a))→h.get? b=some u→h'.get? b=some u)
  (ho:∀b,H b=some (.own a)→H' b=some (.own a)) (ht:∀b xs,H b=some (.tup xs)→H' b=some (.tup xs)):xk P w H' h' a o:=by
 induction o with
 | lst xs=>obtain⟨z,its,n,r,e⟩:=x;exact⟨z,its,n,r,k _ _ (.inl rfl) e⟩
 | tup xs=>obtain⟨z,its,r,ob,e,c⟩:=x;exact⟨z,its,r,ob,k _ _ (.inl rfl) e,c⟩
 | dK kvs=>obtain⟨z,y,vs,r,ob,es,ep,e,c⟩:=x;exact⟨z,y,vs,r,ob,es,ep,k _ _ (.inl rfl) e,c⟩
 | dT kvs=>
  obtain⟨z,y,xs,r,ob,es,ep,e,c⟩:=x
  exact⟨z,y,xs,Paired.JA r fun p q z=>⟨z.1,ht _ _ z.2.1,z.2.2⟩,ob,es,ep,k _ _ (.inl rfl) e,c⟩
 | set S n=>obtain⟨ob,es,ep,t,e,c⟩:=x;exact⟨ob,es,ep,t,k _ _ (.inl rfl) e,c⟩
 | ins C dx fs=>
  obtain⟨d,z,ne,e,mA,⟨od,es,ep,e2,c⟩,r⟩:=x
  exact⟨ho _ d,z,ne,k _ _ (.inl rfl) e,mA,⟨od,es,ep,k _ _ (.inr d) e2,c⟩,r⟩
 | own y=>obtain⟨ob,e⟩:=x;exact⟨ob,k _ _ (.inl rfl) e⟩
 | xd fs=>obtain⟨mA,⟨od,es,ep,e,c⟩,r⟩:=x;exact⟨mA,⟨od,es,ep,k _ _ (.inl rfl) e,c⟩,r⟩
 | rng lo hi=>obtain⟨t,u,v,e⟩:=x;exact⟨t,u,v,k _ _ (.inl rfl) e⟩
 | frz ob u ih=>obtain⟨e,q⟩:=x;exact⟨k _ _ (.inl rfl) e,ih q⟩
 | tbl ps=>
  have e:h.get? a=some { cls:=.none,data:=.fields ps }:=x
  show h'.get? a=some { cls:=.none,data:=.fields ps }
  exact k a _ (.inl rfl) e
 | met f y=>
  have e:h.get? a=some (PySem.W.methodObj (.ref f) (.ref y)):=x
  show h'.get? a=some (PySem.W.methodObj (.ref f) (.ref y))
  exact k a _ (.inl rfl) e
 | ext φ=>obtain⟨p,⟨o,e⟩,st⟩:=x;exact⟨st _ _ p fun o q=>k _ _ (.inl rfl) q,⟨o,k _ _ (.inl rfl) e⟩,st⟩
theorem bC.lt (x:bC P w H h) (e:H a=some o):a < h.objs.size:=(x a o e).lt
theorem bC.fresh (x:bC P w H h) (e:h.objs.size≤a):H a=none:=by
 cases q:H a with
 | none=>rfl
 | some u=>exact absurd (Nat.lt_of_lt_of_le (x.lt q) e) (Nat.lt_irrefl _)
theorem bC.kept (x:bC P w H h) (k:∀b u,h.get? b=some u→h'.get? b=some u):bC P w H h':=fun a o e=>
 (x a o e).sE (fun b u _ q=>k b u q) (fun _ q=>q) fun _ _ q=>q
theorem bC.laid (x:bC P w H h) (k:∀b u,h.get? b=some u→h'.get? b=some u) (hp:h.objs.size≤a) (new:xk P w (upd H a o) h' a o):bC P w (upd H a o) h':=fun b u e=>by
 have hn:=x.fresh hp
 by_cases hb:b=a
 ·subst hb;rw[qy] at e;cases e;exact new
 ·rw[qW hb] at e
  exact(x b u e).sE (fun c v _ q=>k c v q) (fun c q=>by rw[qW (qx q hn)];exact q) fun c xs q=>by rw[qW (qx q hn)];exact q
end
noncomputable def Rd (H:Hp) (a:Addr) (u:HO):Prop:=H a=some u∨∃o,H a=some (.frz o u)
theorem Rd.ok {P:Program} {w:World} {H:Hp} {h:Heap} {a:Addr} {u:HO} (r:Rd H a u) (x:bC P w H h):xk P w H h a u:=by
 rcases r with r | ⟨o,r⟩
 ·exact x a u r
 ·obtain⟨_,q⟩:=x a _ r
  exact q
noncomputable def Gq:Option HO→Prop
 | some (.lst _)=>True
 | some (.dK _)=>True
 | some (.dT _)=>True
 | some (.set _ _)=>True
 | some (.ins _ _ _)=>True
 | some (.ext _)=>True
 | _=>False
section
variable {P:Program} {w:World} {H:Hp} {h h':Heap} {x e:Addr} {o':HO}
theorem bC.write (ok:bC P w H h) (mu:Gq (H x)) (he:e=x∨H e=some (.own x)) (k:∀b u,b≠e→h.get? b=some u→h'.get? b=some u) (heo:∃u,h'.get? e=some u)
  (new:xk P w (upd H x o') h' x o'):bC P w (upd H x o') h':=fun b u q=>by
 have nown:∀c y,H c=some (.own y)→c≠x:=fun c y r z=>by subst z;rw[r] at mu;exact mu
 have ntup:∀c xs,H c=some (.tup xs)→c≠x:=fun c xs r z=>by subst z;rw[r] at mu;exact mu
 by_cases hb:b=x
 ·subst hb;rw[qy] at q;cases q;exact new
 ·rw[qW hb] at q
  by_cases hbe:b=e
  ·have q':H b=some (.own x):=by
    rcases he with z | z
    ·exact absurd (hbe.trans z) hb
    ·rw[hbe];exact z
   rw[q] at q';cases q'
   obtain⟨v,hv⟩:=heo
   exact⟨v,by rw[hbe];exact hv⟩
  ·refine(ok b u q).sE (fun c v hc r=>k c v ?_ r) (fun c r=>by rw[qW (nown c b r)];exact r) fun c xs r=>by rw[qW (ntup c xs r)];exact r
   rcases hc with rfl | hc
   ·exact hbe
   ·rintro rfl
    rcases he with z | z
    ·exact nown c b hc z
    ·rw[hc] at z;cases z;exact hb rfl
end
structure Un (fs ex:List Addr) (H H':Hp) (h h':Heap):Prop where
 keep:∀b o,h.get? b=some o→H b=none→b∉fs→b∉ex→h'.get? b=some o
 slot:∀b o,h.get? b=some o→H b=none→b∈fs→b∉ex→∃sl,h'.get? b=some { o with slots:=sl }
 free:∀b o,h.get? b=some o→H b=none→b∉ex→H' b=none
 there:∀b o,h.get? b=some o→b∉ex→∃o',h'.get? b=some o'
 su:∀b xs,H b=some (.tup xs)→H' b=some (.tup xs)
 uN:∀b o u,H b=some (.frz o u)→H' b=some (.frz o u)
 sm:∀b ps,H b=some (.tbl ps)→∃more,H' b=some (.tbl (ps ++ more))
section
variable {fs fs' ex ex':List Addr} {H H1 H2:Hp} {h h1 h2 h':Heap} {a x e:Addr} {o:HO}
theorem Un.any (u:Un fs ex H H1 h h1) {b:Addr} {ob:Obj} (q:h.get? b=some ob) (n:H b=none) (hx:b∉ex):∃sl,h1.get? b=some { ob with slots:=sl }:=by
 by_cases hb:b∈fs
 ·exact u.slot b ob q n hb hx
 ·exact⟨ob.slots,u.keep b ob q n hb hx⟩
theorem Un.kept (k:∀b u,h.get? b=some u→h'.get? b=some u):Un fs ex H H h h':=
 ⟨fun b ob q _ _ _=>k b ob q,fun b ob q _ _ _=>⟨ob.slots,k b ob q⟩,fun _ _ _ n _=>n,fun b ob q _=>⟨ob,k b ob q⟩,fun _ _ q=>q,fun _ _ _ q=>q,fun _ ps q=>⟨#[],by rw[q];simp⟩⟩
theorem Un.refl:Un fs ex H H h h:=Un.kept fun _ _ q=>q
theorem Un.laid (k:∀b u,h.get? b=some u→h'.get? b=some u) (hp:h.objs.size≤a) (hn:H a=none):Un fs ex H (upd H a o) h h' where
 keep:=fun b u q _ _ _=>k b u q
 slot:=fun b u q _ _ _=>⟨u.slots,k b u q⟩
 free:=fun b u q n _=>by rw[qW (Nat.ne_of_lt (Nat.lt_of_lt_of_le (Heap.lt_size q) hp))];exact n
 there:=fun b u q _=>⟨u,k b u q⟩
 su:=fun b xs q=>by rw[qW (qx q hn)];exact q
 uN:=fun b u xs q=>by rw[qW (qx q hn)];exact q
 sm:=fun b ps q=>⟨#[],by rw[qW (qx q hn),q];simp⟩
theorem Un.write (mu:Gq (H x)) (he:e=x∨H e=some (.own x)) (k:∀b u,b≠e→h.get? b=some u→h'.get? b=some u) (heo:∃u,h'.get? e=some u):Un fs ex H (upd H x o) h h':=by
 have hx:∀b,H b=none→b≠x:=fun b n z=>by subst z;rw[n] at mu;exact mu
 have hb:∀b,H b=none→b≠e:=fun b n z=>by
  subst z
  rcases he with r | r
  ·exact hx b n r
  ·rw[n] at r;cases r
 have hm:∀b u,H b=some u→¬Gq (some u)→b≠x:=fun b u q nm z=>by subst z;rw[q] at mu;exact nm mu
 refine⟨fun b u q n _ _=>k b u (hb b n) q,fun b u q n _ _=>⟨u.slots,k b u (hb b n) q⟩,fun b u q n _=>by rw[qW (hx b n)];exact n,fun b u q _=>?_,
  fun b xs q=>by rw[qW (hm b _ q fun z=>z)];exact q,fun b u xs q=>by rw[qW (hm b _ q fun z=>z)];exact q,fun b ps q=>⟨#[],by rw[qW (hm b _ q fun z=>z),q];simp⟩⟩
 by_cases hbe:b=e
 ·subst hbe;exact heo
 ·exact⟨u,k b u hbe q⟩
end
noncomputable def HF (h:Heap) (H:Hp):List Addr:=(List.range h.objs.size).filter fun a=>(H a).isSome
noncomputable def nA (h:Heap) (H:Hp):Heap:=PySem.W.hideAll h (HF h H)
theorem Qo (h:Heap) (H:Hp):(nA h H).objs.size=h.objs.size:=PySem.W.hideAll_size _ _
theorem JB {h:Heap} {H:Hp} {b:Addr} {o:Obj} (e:h.get? b=some o) (n:H b=none):(nA h H).get? b=some o:=
 PySem.W.hideAll_get _ e fun hm=>by
  have q:(H b).isSome=true:=(List.mem_filter.mp hm).2
  rw[n] at q;simp at q
theorem Vy {h:Heap} {H:Hp} {b:Addr} {o:Obj} (e:(nA h H).get? b=some o):h.get? b=some o∧H b=none:=by
 have e':h.get? b=some o:=PySem.W.of_hideAll (HF h H) e
 refine⟨e',?_⟩
 cases q:H b with
 | none=>rfl
 | some x=>
  have hm:b∈HF h H:=List.mem_filter.mpr ⟨List.mem_range.mpr (Heap.lt_size e'),by simp [q]⟩
  have z:(nA h H).get? b=none:=PySem.W.hideAll_none (HF h H) hm
  rw[z] at e;cases e
noncomputable def Ka (g h:Heap) (L:Addr):List (Addr × Obj):=(List.range h.objs.size).filterMap fun a=>if a=L∨(g.get? a).isSome=true then none else (h.get? a).map fun o=>(a,o)
noncomputable def rest (g h:Heap) (L d:Addr):List (Addr × Obj):=(Ka g h L).filter fun p=>decide (p.1≠d)
end L2
namespace L2
open PySem PySem.Spec PyProof.Rows
structure Mod (K:PySem.W.Frag) (mg:Str→Option Value) (base:Heap):Prop where
 ZY:K.In base
 glob:base.Ns mainGlobals mg
 blt:∃mb,base.Ns builtinsNs mb∧∀x:Str,x≠"__name__"→mb x=bootBuiltins x
 nolimit:base.NoLimit
structure Cx where
 prog:Program
 w:World
 K:PySem.W.Frag
 mg:Str→Option Value
 base:Heap
 A:Around
 N:List Str
 s₀:Shared
 H₀:Hp
 env:Env
 outer:List Env
 stack:List Env
 ex:List Addr
 fn:Str→Bool
 calm:Bool
 pn:List (Addr × Obj)
 xe:Value→Shared→Prop
noncomputable def nO (l:List Env):List Addr:=l.filterMap (·.frame)
noncomputable abbrev Cx.fs (X:Cx):List Addr:=nO X.outer
noncomputable def HJ (sc:Scope) (x:Str):Prop:=sc.names.lookup x=some .local∨sc.names.lookup x=some .cell∨sc.names.lookup x=some .free
noncomputable def Loc (sc:Scope) (x:Str):Prop:=sc.names.lookup x=some .local∨sc.names.lookup x=some .cell
noncomputable def Look (env:Env) (h:Heap) (m:Str→Option Value) (x:Str) (u:Value):Prop:=
 (env.kindOf x=some .local∧m x=some u)∨((env.kindOf x=some .cell∨env.kindOf x=some .free)∧∃c,env.cells.lookup x=some c∧h.IsCell c (some u))
structure Cx.Ok (X:Cx):Prop where
 mod:Mod X.K X.mg X.base
 kind:X.env.scope.kind=.function
 glob:X.env.globals=mainGlobals
 blt:X.env.builtins=builtinsNs
 above:X.s₀.heap.objs.size≤X.env.locals
 inj:∀x y c,X.env.cells.lookup x=some c→X.env.cells.lookup y=some c→x=y
 has:∀x,(X.env.kindOf x=some .cell∨X.env.kindOf x=some .free)→∃c,X.env.cells.lookup x=some c
 Y4:∀x c,X.fn x=true→X.env.cells.lookup x=some c→X.s₀.heap.objs.size≤c
 hd:X.calm=true→X.A.handled=none
 frames:X.A.frames=some X.stack
 Hw:X.stack=X.outer∨(X.stack=X.env :: X.outer∧X.env.frame=some X.env.locals)
 WU:∀b∈X.ex,b≠X.env.locals∧∀x c,X.env.cells.lookup x=some c→c≠b
 bs:∀b o,X.base.get? b=some o→X.s₀.heap.get? b=some o∧X.H₀ b=none
 Qp:X.base.objs.size≤X.s₀.heap.objs.size
 aV:∀b o,X.base.get? b=some o→b∉X.ex
 iC:∀b∈X.ex,b∉X.fs
 d7:X.s₀.heap.FunFrames X.base X.outer
 KN:∀b∈X.fs,X.H₀ b=none
structure Inv (X:Cx) (pins:List (Addr × Obj)) (σ:List (Option V)) (H:Hp) (s:Shared):Prop where
 ok:X.Ok
 os:s.os=X.s₀.os
 bare:AllBare s.gens
 base:Un X.fs X.ex X.H₀ H X.s₀.heap s.heap
 loc:∃m,s.heap.Ns X.env.locals m∧∀(i:Nat) (x:Str) (v:V),X.N[i]?=some x→σ[i]?=some (some v)→HJ X.env.scope x→∃u,RelV v u∧Look X.env s.heap m x u
 cell:∀x c,X.env.cells.lookup x=some c→∃v,s.heap.IsCell c v
 free:H X.env.locals=none
 yX:∀x c,X.env.cells.lookup x=some c→H c=none
 pin:∀p∈X.pn ++ pins,s.heap.get? p.1=some p.2∧H p.1=none∧p.1≠X.env.locals∧p.1∉X.fs∧∀v,p.2.data≠.cell v
 jj:bC X.prog X.w H s.heap
 len:σ.length=X.N.length
section
variable {X:Cx} {pins:List (Addr × Obj)} {σ:List (Option V)} {H H':Hp} {s:Shared} {h':Heap}
theorem Cx.Ok.Bd (ok:X.Ok) {b:Addr} {o:Obj} (e:X.base.get? b=some o):b∉X.fs:=fun hb=>by
 have:=(ok.d7.mem hb).1
 rw[e] at this;cases this
theorem Inv.bs (I:Inv X pins σ H s):∀b o,X.base.get? b=some o→s.heap.get? b=some o∧H b=none:=fun b o e=>
 ⟨I.base.keep b o (I.ok.bs b o e).1 (I.ok.bs b o e).2 (I.ok.Bd e) (I.ok.aV b o e),I.base.free b o (I.ok.bs b o e).1 (I.ok.bs b o e).2 (I.ok.aV b o e)⟩
theorem Inv.bk (I:Inv X pins σ H s):∀b o,X.base.get? b=some o→s.heap.get? b=some o:=fun b o e=>(I.bs b o e).1
theorem Inv.mod (I:Inv X pins σ H s):Mod X.K X.mg X.base:=I.ok.mod
theorem Inv.gJ (I:Inv X pins σ H s):X.K.In s.heap:=I.ok.mod.ZY.keeps I.bk
theorem Inv.fr (I:Inv X pins σ H s):∃m,Fr X.base X.env.locals s.heap m:=
 let ⟨m,hn,_⟩:=I.loc
 ⟨m,hn,I.bk,Nat.le_trans I.ok.Qp I.ok.above⟩
theorem Inv.lt (I:Inv X pins σ H s):X.env.locals < s.heap.objs.size:=let ⟨_,hn,_⟩:=I.loc;hn.lt
theorem Inv.sz (I:Inv X pins σ H s):X.s₀.heap.objs.size≤s.heap.objs.size:=Nat.le_trans I.ok.above (Nat.le_of_lt I.lt)
theorem Inv.Bc (I:Inv X pins σ H s) {a:Addr} (h:s.heap.objs.size≤a):a∉X.fs:=fun hb=>by
 obtain⟨_,o,ho,_⟩:=I.ok.d7.mem hb
 exact absurd (Nat.lt_of_lt_of_le (Heap.lt_size ho) (Nat.le_trans I.sz h)) (Nat.lt_irrefl _)
theorem Inv.VE (I:Inv X pins σ H s):∀x c,X.env.cells.lookup x=some c→c≠X.env.locals:=fun x c e z=>by
 obtain⟨v,o,ho,hd⟩:=I.cell x c e
 obtain⟨m,⟨o',es,ep,ho',hd',_⟩,_⟩:=I.loc
 rw[z,ho'] at ho;cases ho;rw[hd'] at hd;cases hd
theorem Inv.d7 (I:Inv X pins σ H s):s.heap.FunFrames X.base X.outer:=by
 have all:∀(l:List Env),(∀b∈nO l,b∈X.fs)→X.s₀.heap.FunFrames X.base l→s.heap.FunFrames X.base l:=by
  intro l
  induction l with
  | nil=>intro _ _;trivial
  | cons env r ih=>
   intro hs hl
   obtain⟨hk,⟨L,o,hf,hn,ho,hd⟩,hr⟩:=hl
   have hL:L∈X.fs:=hs L (by unfold nO;rw[List.filterMap_cons,hf];exact List.mem_cons_self)
   obtain⟨sl,e⟩:=I.base.slot L o ho (I.ok.KN L hL) hL fun z=>I.ok.iC L z hL
   exact⟨hk,⟨L,_,hf,hn,e,hd⟩,ih (fun b hb=>hs b (by unfold nO;rw[List.filterMap_cons,hf];exact List.mem_cons_of_mem _ hb)) hr⟩
 exact all X.outer (fun _ hb=>hb) I.ok.d7
theorem Inv.stack (I:Inv X pins σ H s):s.heap.FunFrames X.base X.stack:=by
 rcases I.ok.Hw with e | ⟨e,hf⟩
 ·rw[e];exact I.d7
 ·rw[e]
  obtain⟨m,hn,_⟩:=I.loc
  refine .cons (by rw[I.ok.kind];decide) hf hn ?_ I.d7
  exact Heap.get?_none_of_le (Nat.le_trans I.ok.Qp I.ok.above)
theorem Inv.sf (I:Inv X pins σ H s):∀b∈nO X.stack,b∈X.env.locals :: X.fs:=fun b hb=>by
 rcases I.ok.Hw with e | ⟨e,hf⟩
 ·rw[e] at hb;exact List.mem_cons_of_mem _ hb
 ·rw[e] at hb
  unfold nO at hb
  rw[List.filterMap_cons,hf] at hb
  exact hb
theorem Inv.mG (I:Inv X pins σ H s):∀b∈nO X.stack,H b=none:=fun b hb=>by
 rcases List.mem_cons.mp (I.sf b hb) with e | hb
 ·rw[e];exact I.free
 ·obtain⟨_,o,ho,_⟩:=I.ok.d7.mem hb
  exact I.base.free b o ho (I.ok.KN b hb) fun z=>I.ok.iC b z hb
theorem Inv.step {g':Array GenState} {t':Nat} {d':Drawn} {ch:List Addr} (I:Inv X pins σ H s)
  (hch:∀b∈ch,(b∈X.ex∨X.s₀.heap.objs.size≤b)∧b≠X.env.locals∧(∀x c,X.env.cells.lookup x=some c→c≠b)∧∀p∈X.pn ++ pins,p.1≠b)
  (keep:∀b o,b≠X.env.locals→b∉X.fs→b∉ch→s.heap.get? b=some o→H b=none→h'.get? b=some o)
  (slot:∀b o,b≠X.env.locals→b∈X.fs→b∉ch→s.heap.get? b=some o→H b=none→∃sl,h'.get? b=some { o with slots:=sl }) (free:∀b o,b∉ch→s.heap.get? b=some o→H b=none→H' b=none)
  (there:∀b o,b∉ch→s.heap.get? b=some o→∃o',h'.get? b=some o')
  (su:∀b xs,H b=some (.tup xs)→H' b=some (.tup xs)) (uN:∀b o u,H b=some (.frz o u)→H' b=some (.frz o u)) (sm:∀b ps,H b=some (.tbl ps)→∃more,H' b=some (.tbl (ps ++ more)))
  (ns:∀m,s.heap.Ns X.env.locals m→h'.Ns X.env.locals m) (jj:bC X.prog X.w H' h') (hg:AllBare g') :
  Inv X pins σ H' { s with heap:=h',gens:=g',drawn:=d',toks:=t' }:=by
 have neL:∀b o,X.s₀.heap.get? b=some o→b≠X.env.locals:=fun b o e=>Nat.ne_of_lt (Nat.lt_of_lt_of_le (Heap.lt_size e) I.ok.above)
 have neC:∀b o,X.s₀.heap.get? b=some o→b∉X.ex→b∉ch:=fun b o e hx hb=>by
  rcases(hch b hb).1 with z | z
  ·exact hx z
  ·exact absurd (Nat.lt_of_lt_of_le (Heap.lt_size e) z) (Nat.lt_irrefl _)
 have cellK:∀x c,X.env.cells.lookup x=some c→∀v,s.heap.IsCell c v→h'.IsCell c v:=fun x c e v ⟨o,ho,hd⟩=>by
  have nch:c∉ch:=fun z=>(hch c z).2.2.1 x c e rfl
  by_cases hc:c∈X.fs
  ·obtain⟨sl,q⟩:=slot c o (I.VE x c e) hc nch ho (I.yX x c e)
   exact⟨_,q,hd⟩
  ·exact⟨o,keep c o (I.VE x c e) hc nch ho (I.yX x c e),hd⟩
 refine⟨I.ok,I.os,hg,⟨fun b o e n hb hx=>?_,fun b o e n hb hx=>?_,fun b o e n hx=>?_,fun b o e hx=>?_,fun b xs e=>su b xs (I.base.su b xs e),fun b o xs e=>uN b o xs (I.base.uN b o xs e),fun b ps e=>?_⟩,?_,fun x c e=>?_,?_,fun x c e=>?_,fun p hp=>?_,jj,I.len⟩
 ·exact keep b o (neL b o e) hb (neC b o e hx) (I.base.keep b o e n hb hx) (I.base.free b o e n hx)
 ·obtain⟨sl,e1⟩:=I.base.slot b o e n hb hx
  obtain⟨sl',e2⟩:=slot b _ (neL b o e) hb (neC b o e hx) e1 (I.base.free b o e n hx)
  exact⟨sl',e2⟩
 ·obtain⟨o',e1⟩:=I.base.there b o e hx
  exact free b o' (neC b o e hx) e1 (I.base.free b o e n hx)
 ·obtain⟨o',e1⟩:=I.base.there b o e hx
  exact there b o' (neC b o e hx) e1
 ·obtain⟨m1,e1⟩:=I.base.sm b ps e
  obtain⟨m2,e2⟩:=sm b _ e1
  exact⟨m1 ++ m2,by rw[e2,Array.append_assoc]⟩
 ·obtain⟨m,hn,hl⟩:=I.loc
  refine⟨m,ns m hn,fun i x v e1 e2 e3=>?_⟩
  obtain⟨u,r,l⟩:=hl i x v e1 e2 e3
  refine⟨u,r,?_⟩
  rcases l with l | ⟨k,c,e,z⟩
  ·exact .inl l
  ·exact .inr ⟨k,c,e,cellK x c e _ z⟩
 ·obtain⟨v,z⟩:=I.cell x c e
  exact⟨v,cellK x c e v z⟩
 ·obtain⟨m,⟨o,_,_,ho,_⟩,_⟩:=I.loc
  exact free _ o (fun z=>(hch _ z).2.1 rfl) ho I.free
 ·obtain⟨v,o,ho,hd⟩:=I.cell x c e
  exact free c o (fun z=>(hch c z).2.2.1 x c e rfl) ho (I.yX x c e)
 ·obtain⟨e,n,ne,nf,d⟩:=I.pin p hp
  have nch:p.1∉ch:=fun z=>(hch p.1 z).2.2.2 p hp rfl
  exact⟨keep p.1 p.2 ne nf nch e n,free p.1 p.2 nch e n,ne,nf,d⟩
theorem Inv.un {t':Nat} (I:Inv X pins σ H s) (u:Un X.fs [] H H' s.heap h') (jj:bC X.prog X.w H' h'):Inv X pins σ H' { s with heap:=h',toks:=t' }:=by
 obtain⟨m,⟨o,es,ep,ho,r⟩,_⟩:=id I.loc
 obtain⟨sl,hL⟩:=u.any ho I.free (by simp)
 exact I.step (g':=s.gens) (d':=s.drawn) (ch:=[]) (fun _ z=>nomatch z) (fun b o _ hb _ e n=>u.keep b o e n hb (by simp)) (fun b o _ hb _ e n=>u.slot b o e n hb (by simp)) (fun b o _ e n=>u.free b o e n (by simp)) (fun b o _ e=>u.there b o e (by simp)) u.su u.uN u.sm (fun m' hm=>by
  obtain⟨o',es',ep',ho',r'⟩:=hm
  rw[ho] at ho';cases ho'
  exact⟨_,es',ep',hL,r'⟩) jj I.bare
theorem Inv.call {g':Array GenState} {t':Nat} {d':Drawn} {ch:List Addr} (I:Inv X pins σ H s) (u:Un (nO X.stack) ch H H' s.heap h') (jj:bC X.prog X.w H' h') (hg:AllBare g')
  (hch:∀b∈ch,(b∈X.ex∨X.s₀.heap.objs.size≤b)∧b≠X.env.locals∧(∀x c,X.env.cells.lookup x=some c→c≠b)∧∀p∈X.pn ++ pins,p.1≠b) :
  Inv X pins σ H' { s with heap:=h',gens:=g',drawn:=d',toks:=t' }:=by
 obtain⟨m,⟨o,es,ep,ho,r⟩,_⟩:=id I.loc
 obtain⟨sl,hL⟩:=u.any ho I.free fun z=>(hch _ z).2.1 rfl
 exact I.step (ch:=ch) hch (fun b o hL hb hc e n=>u.keep b o e n (fun z=>(List.mem_cons.mp (I.sf b z)).elim hL hb) hc) (fun b o _ _ hc e n=>u.any e n hc) (fun b o hc e n=>u.free b o e n hc) (fun b o hc e=>u.there b o e hc) u.su u.uN u.sm (fun m' hm=>by
  obtain⟨o',es',ep',ho',r'⟩:=hm
  rw[ho] at ho';cases ho'
  exact⟨_,es',ep',hL,r'⟩) jj hg
theorem Inv.turned {t':Nat} {it:Addr} (I:Inv X pins σ H s) (k:∀b o,b≠it→s.heap.get? b=some o→h'.get? b=some o) (hn:H it=none) (hL:it≠X.env.locals)
  (h1:it∈X.ex∨X.s₀.heap.objs.size≤it) (h2:∀x c,X.env.cells.lookup x=some c→c≠it) (h3:∀p∈X.pn ++ pins,p.1≠it):Inv X pins σ H { s with heap:=h',toks:=t' }:=by
 have nit:∀b u,H b=some u→b≠it:=fun b u e z=>by rw[z,hn] at e;cases e
 refine I.step (g':=s.gens) (d':=s.drawn) (ch:=[it]) (fun b hb=>?_) (fun b o _ _ hc e _=>k b o (fun z=>hc (by simp [z])) e) (fun b o _ _ hc e _=>⟨o.slots,k b o (fun z=>hc (by simp [z])) e⟩) (fun _ _ _ _ n=>n)
  (fun b o hc e=>⟨o,k b o (fun z=>hc (by simp [z])) e⟩) (fun _ _ e=>e) (fun _ _ _ e=>e) (fun b ps e=>⟨#[],by rw[e];simp⟩) (fun m hm=>?_) (fun b u e=>?_) I.bare
 ·have e:b=it:=by simpa using hb
  subst e
  exact⟨h1,hL,h2,h3⟩
 ·obtain⟨o,es,ep,ho,r⟩:=hm
  exact⟨o,es,ep,k _ o (Ne.symm hL) ho,r⟩
 ·refine(I.jj b u e).sE (fun c v hc q=>k c v ?_ q) (fun _ q=>q) fun _ _ q=>q
  rcases hc with z | z
  ·rw[z];exact nit b u e
  ·exact nit c _ z
theorem Inv.tok (I:Inv X pins σ H s) (t:Nat):Inv X pins σ H { s with toks:=t }:=I.un (h':=s.heap) (t':=t) Un.refl I.jj
theorem Inv.kept {t':Nat} (I:Inv X pins σ H s) (k:∀b u,s.heap.get? b=some u→h'.get? b=some u):Inv X pins σ H { s with heap:=h',toks:=t' }:=I.un (Un.kept k) (I.jj.kept k)
theorem Inv.laid {a:Addr} {o:HO} {t':Nat} (I:Inv X pins σ H s) (k:∀b u,s.heap.get? b=some u→h'.get? b=some u) (hp:s.heap.objs.size≤a) (new:xk X.prog X.w (upd H a o) h' a o) :
  Inv X pins σ (upd H a o) { s with heap:=h',toks:=t' }:=I.un (Un.laid k hp (I.jj.fresh hp)) (I.jj.laid k hp new)
theorem Inv.write {x e:Addr} {o:HO} {t':Nat} (I:Inv X pins σ H s) (mu:Gq (H x)) (he:e=x∨H e=some (.own x)) (k:∀b u,b≠e→s.heap.get? b=some u→h'.get? b=some u) (heo:∃u,h'.get? e=some u)
  (new:xk X.prog X.w (upd H x o) h' x o):Inv X pins σ (upd H x o) { s with heap:=h',toks:=t' }:=I.un (Un.write mu he k heo) (I.jj.write mu he k heo new)
theorem Inv.weak {σ':List (Option V)} (I:Inv X pins σ H s) (hl:σ'.length=σ.length) (w:∀(i:Nat) v,σ'[i]?=some (some v)→σ[i]?=some (some v)):Inv X pins σ' H s:=
 ⟨I.ok,I.os,I.bare,I.base,let ⟨m,hn,hl'⟩:=I.loc;⟨m,hn,fun i x v e1 e2 e3=>hl' i x v e1 (w i v e2) e3⟩,I.cell,I.free,I.yX,I.pin,I.jj,hl.trans I.len⟩
theorem Inv.cG {pins':List (Addr × Obj)} (I:Inv X pins σ H s) (h:∀p∈pins',s.heap.get? p.1=some p.2∧H p.1=none∧p.1≠X.env.locals∧p.1∉X.fs∧∀v,p.2.data≠.cell v):Inv X pins' σ H s:=
 ⟨I.ok,I.os,I.bare,I.base,I.loc,I.cell,I.free,I.yX,fun p hp=>(List.mem_append.mp hp).elim (fun z=>I.pin p (List.mem_append_left _ z)) (h p),I.jj,I.len⟩
theorem cQ {N:List Str} (hN:N.Nodup) {i j:Nat} {x:Str} (a:N[i]?=some x) (b:N[j]?=some x):i=j:=by
 obtain⟨h1,e1⟩:=List.getElem?_eq_some_iff.mp a
 obtain⟨h2,e2⟩:=List.getElem?_eq_some_iff.mp b
 exact(List.getElem_inj hN).mp (e1.trans e2.symm)
theorem QE {M:Model} {A:Around} {E:Value→Shared→Prop} {i:Nat} {x:Str} {v:V} {u:Value} {Q:Unit→Shared→Prop} (I:Inv X pins σ H s) (hN:X.N.Nodup) (hi:X.N[i]?=some x) (hx:Loc X.env.scope x) (r:RelV v u)
  (h:∀s',Inv X pins (σ.set i (some v)) H s'→(∃a,Heap.SameBut a s.heap s'.heap∧(a=X.env.locals∨X.env.cells.lookup x=some a))→Q () s') (hf:X.fn x=true∨X.env.scope.names.lookup x=some .local:=by first | exact .inl rfl | exact .inr rfl | assumption):wpAny M A (storeName X.env x u) Q E s:=by
 obtain⟨m,hn,hl⟩:=id I.loc
 have hcls:(X.env.scope.kind == .class || (X.env.scope.kind == .module && X.env.locals != X.env.globals))=false:=by rw[I.ok.kind];rfl
 have hiσ:i < σ.length:=by rw[I.len];exact(List.getElem?_eq_some_iff.mp hi).1
 have VE:=I.VE
 have tracked:∀{a:Addr} {h':Heap},(∃o,s.heap.get? a=some o∧H a=none)→Heap.SameBut a s.heap h'→bC X.prog X.w H h':=fun {a h'} ha hs b ob e=>by
  obtain⟨_,_,hfree⟩:=ha
  refine(I.jj b ob e).sE (fun c w' hc q=>(hs.2 c ?_).trans q) (fun _ q=>q) fun _ _ q=>q
  rintro rfl
  rcases hc with rfl | hc
  ·rw[hfree] at e;cases e
  ·rw[hfree] at hc;cases hc
 rcases hx with hk | hk
 ·refine wpAny_storeName_local hk hn (fun h' hn' hs=>?_) hcls
  obtain⟨oL,_,_,hoL,_⟩:=id hn
  refine h _ ⟨I.ok,I.os,I.bare,⟨fun b o e n hb hx=>?_,fun b o e n hb hx=>?_,I.base.free,fun b o e hx=>?_,I.base.su,I.base.uN,I.base.sm⟩,⟨_,hn',fun j y v' e1 e2 e3=>?_⟩,fun y c e=>?_,I.free,I.yX,fun p hp=>?_,tracked ⟨oL,hoL,I.free⟩ hs,by simpa using I.len⟩ ⟨_,hs,.inl rfl⟩
  ·exact(hs.2 b (Nat.ne_of_lt (Nat.lt_of_lt_of_le (Heap.lt_size e) I.ok.above))).trans (I.base.keep b o e n hb hx)
  ·obtain⟨sl,e1⟩:=I.base.slot b o e n hb hx
   exact⟨sl,(hs.2 b (Nat.ne_of_lt (Nat.lt_of_lt_of_le (Heap.lt_size e) I.ok.above))).trans e1⟩
  ·obtain⟨o',e1⟩:=I.base.there b o e hx
   exact⟨o',(hs.2 b (Nat.ne_of_lt (Nat.lt_of_lt_of_le (Heap.lt_size e) I.ok.above))).trans e1⟩
  ·by_cases hj:j=i
   ·subst hj
    rw[hi] at e1;cases e1
    rw[List.getElem?_set_self hiσ] at e2
    cases e2
    exact⟨u,r,.inl ⟨hk,by simp⟩⟩
   ·rw[List.getElem?_set_ne (Ne.symm hj)] at e2
    obtain⟨u',r',q⟩:=hl j y v' e1 e2 e3
    refine⟨u',r',?_⟩
    rcases q with ⟨k,e⟩ | ⟨k,c,e,z⟩
    ·refine .inl ⟨k,?_⟩
     have:y≠x:=fun e=>hj (cQ hN e1 (e▸hi))
     simp [this,e]
    ·exact .inr ⟨k,c,e,z.sameBut hs (VE y c e)⟩
  ·obtain⟨w',z⟩:=I.cell y c e
   exact⟨w',z.sameBut hs (VE y c e)⟩
  ·obtain⟨e,n,ne,nf,d⟩:=I.pin p hp
   exact⟨(hs.2 p.1 ne).trans e,n,ne,nf,d⟩
 ·have hfn:X.fn x=true:=by
   rcases hf with z | z
   ·exact z
   ·rw[z] at hk;cases hk
  obtain⟨c,hc⟩:=I.ok.has x (.inl hk)
  obtain⟨w',z⟩:=I.cell x c hc
  refine wpAny_storeName_cell I.ok.kind hk hc z (fun h' hc' hs=>?_)
  obtain⟨oc,hoc,hocd⟩:=id z
  refine h { s with heap:=h' } ⟨I.ok,I.os,I.bare,⟨fun b o e n hb hx=>?_,fun b o e n hb hx=>?_,I.base.free,fun b o e hx=>?_,I.base.su,I.base.uN,I.base.sm⟩,⟨m,hn.sameBut hs (Ne.symm (VE x c hc)),fun j y v' e1 e2 e3=>?_⟩,fun y c' e=>?_,I.free,I.yX,fun p hp=>?_,tracked ⟨oc,hoc,I.yX x c hc⟩ hs,by simpa using I.len⟩ ⟨c,hs,.inr hc⟩
  ·exact(hs.2 b (Nat.ne_of_lt (Nat.lt_of_lt_of_le (Heap.lt_size e) (I.ok.Y4 x c hfn hc)))).trans (I.base.keep b o e n hb hx)
  ·obtain⟨sl,e1⟩:=I.base.slot b o e n hb hx
   exact⟨sl,(hs.2 b (Nat.ne_of_lt (Nat.lt_of_lt_of_le (Heap.lt_size e) (I.ok.Y4 x c hfn hc)))).trans e1⟩
  ·obtain⟨o',e1⟩:=I.base.there b o e hx
   exact⟨o',(hs.2 b (Nat.ne_of_lt (Nat.lt_of_lt_of_le (Heap.lt_size e) (I.ok.Y4 x c hfn hc)))).trans e1⟩
  ·by_cases hj:j=i
   ·subst hj
    rw[hi] at e1;cases e1
    rw[List.getElem?_set_self hiσ] at e2
    cases e2
    exact⟨u,r,.inr ⟨.inl hk,c,hc,hc'⟩⟩
   ·rw[List.getElem?_set_ne (Ne.symm hj)] at e2
    obtain⟨u',r',q⟩:=hl j y v' e1 e2 e3
    refine⟨u',r',?_⟩
    rcases q with q | ⟨k,c',e,z'⟩
    ·exact .inl q
    ·refine .inr ⟨k,c',e,z'.sameBut hs ?_⟩
     rintro rfl
     exact hj (cQ hN e1 (I.ok.inj _ _ _ e hc▸hi))
  ·by_cases hcc:c'=c
   ·subst hcc;exact⟨_,hc'⟩
   ·obtain⟨w2,z2⟩:=I.cell y c' e
    exact⟨w2,z2.sameBut hs hcc⟩
  ·obtain⟨e,n,ne,nf,d⟩:=I.pin p hp
   refine⟨(hs.2 p.1 ?_).trans e,n,ne,nf,d⟩
   intro q
   rw[q,hoc] at e
   have q':oc=p.2:=Option.some.inj e
   exact d w' (by rw[←q'];exact hocd)
theorem gs {M:Model} {A:Around} {E:Value→Shared→Prop} {i:Nat} {x:Str} {v:V} {u:Value} {Q:Unit→Shared→Prop} (I:Inv X pins σ H s) (hN:X.N.Nodup) (hi:X.N[i]?=some x) (hx:Loc X.env.scope x) (r:RelV v u)
  (h:∀s',Inv X pins (σ.set i (some v)) H s'→Q () s') (hf:X.fn x=true∨X.env.scope.names.lookup x=some .local:=by first | exact .inl rfl | exact .inr rfl | assumption):wpAny M A (storeName X.env x u) Q E s:=
 QE I hN hi hx r (fun s' I' _=>h s' I') hf
theorem Inv.iQ {s':Shared} {ch:List Addr} (I:Inv X pins σ H s) (ho:s'.os=s.os) (u:Un (nO X.stack) ch H H' s.heap s'.heap) (jj:bC X.prog X.w H' s'.heap) (hg:AllBare s'.gens)
  (hch:∀b∈ch,(b∈X.ex∨X.s₀.heap.objs.size≤b)∧b≠X.env.locals∧(∀x c,X.env.cells.lookup x=some c→c≠b)∧∀p∈X.pn ++ pins,p.1≠b):Inv X pins σ H' s':=by
 obtain⟨h',g',d',t',o'⟩:=s'
 have e:o'=s.os:=ho
 subst e
 exact I.call (g':=g') (t':=t') (d':=d') u jj hg hch
end
noncomputable abbrev XK:=Value→Option Addr→Hp→Prop
noncomputable abbrev St:=List (Option V)
noncomputable abbrev VK:=V→Hp→Prop
noncomputable abbrev TE:=St→Hp→VK→Prop
noncomputable abbrev TT:=St→Hp→(Bool→Hp→Prop)→Prop
noncomputable abbrev TA:=St→Hp→(List V→Hp→Prop)→Prop
structure Ends where
 nx:St→Hp→Prop
 rt:VK
 bk:St→Hp→Prop:=fun _ _=>False
 ct:St→Hp→Prop:=fun _ _=>False
noncomputable abbrev TS:=Ends→St→Hp→Prop
noncomputable def EP (X:Cx) (pins:List (Addr × Obj)) (σ:St) (Q:VK) (u:Value) (s':Shared):Prop:=∃v H',Inv X pins σ H' s'∧RelV v u∧Q v H'
noncomputable def TP (X:Cx) (pins:List (Addr × Obj)) (σ:St) (Q:Bool→Hp→Prop) (b:Bool) (s':Shared):Prop:=∃H',Inv X pins σ H' s'∧Q b H'
noncomputable def AP (X:Cx) (pins:List (Addr × Obj)) (σ:St) (Q:List V→Hp→Prop) (us:List Value) (s':Shared):Prop:=∃vs H',Inv X pins σ H' s'∧Vals vs us∧Q vs H'
noncomputable def SP (X:Cx) (pins:List (Addr × Obj)) (D:Ends) (f:Flow) (s':Shared):Prop:=
 match f with
 | .next=>∃σ' H',Inv X pins σ' H' s'∧D.nx σ' H'
 | .brk=>∃σ' H',Inv X pins σ' H' s'∧D.bk σ' H'
 | .cont=>∃σ' H',Inv X pins σ' H' s'∧D.ct σ' H'
 | .ret u=>∃v σ' H',Inv X pins σ' H' s'∧RelV v u∧D.rt v H'
noncomputable def PE (X:Cx) (e:Expr) (t:TE):Prop:=
 ∀(pins:List (Addr × Obj)) (s:Shared) (σ:St) (H:Hp) (Q:VK),Inv X pins σ H s→t σ H Q→wpAny (model X.prog X.w) X.A (eval e X.env) (EP X pins σ Q) X.xe s
noncomputable def PT (X:Cx) (e:Expr) (t:TT):Prop:=
 ∀(pins:List (Addr × Obj)) (s:Shared) (σ:St) (H:Hp) (Q:Bool→Hp→Prop),Inv X pins σ H s→t σ H Q→wpAny (model X.prog X.w) X.A (isTrue e X.env (eval e X.env)) (TP X pins σ Q) X.xe s
noncomputable def PW (X:Cx) (e:Expr) (t:TT):Prop:=
 ∀(whole:Sem Value) (pins:List (Addr × Obj)) (s:Shared) (σ:St) (H:Hp) (Q:Bool→Hp→Prop),Inv X pins σ H s→t σ H Q→wpAny (model X.prog X.w) X.A (isTrue e X.env whole) (TP X pins σ Q) X.xe s
theorem PW.pt {X:Cx} {e:Expr} {t:TT} (h:PW X e t):PT X e t:=h _
noncomputable def PA (X:Cx) (es:List Expr) (t:TA):Prop:=
 ∀(pos:Pos) (pins:List (Addr × Obj)) (s:Shared) (σ:St) (H:Hp) (Q:List V→Hp→Prop),Inv X pins σ H s→t σ H Q→wpAny (model X.prog X.w) X.A (spliced (backTo pos (starEach es X.env))) (AP X pins σ Q) X.xe s
noncomputable def PS (X:Cx) (st:Stmt) (t:TS):Prop:=
 ∀(pins:List (Addr × Obj)) (s:Shared) (σ:St) (H:Hp) (D:Ends),Inv X pins σ H s→t D σ H→wpAny (model X.prog X.w) X.A (exec st X.env) (SP X pins D) X.xe s
noncomputable def sW (X:Cx) (st:List Stmt) (t:TS):Prop:=
 ∀(pins:List (Addr × Obj)) (s:Shared) (σ:St) (H:Hp) (D:Ends),Inv X pins σ H s→t D σ H→wpAny (model X.prog X.w) X.A (execs st X.env) (SP X pins D) X.xe s
theorem jO {α:Type} {t:Sem α} {Q Q':α→Shared→Prop} {M:Model} {A:Around} {E:Value→Shared→Prop} {s:Shared} (h:wpAny M A t Q E s) (hQ:∀a s,Q a s→Q' a s):wpAny M A t Q' E s:=wpAny_mono h hQ fun _ _ x=>x
end L2
namespace L2
open PySem PySem.Spec PyProof.Rows
section
variable {X:Cx}
theorem bin {a b:Expr} {ta tb:TE} (ha:PE X a ta) (hb:PE X b tb) {pins:List (Addr × Obj)} {s:Shared} {σ:St} {H:Hp} {R:V→V→Hp→Prop} (I:Inv X pins σ H s) (h:ta σ H fun x H1=>tb σ H1 fun y H2=>R x y H2)
  {α:Type} {Q:α→Shared→Prop} {f:Value→Value→Sem α}
  (hf:∀v u s2 x y H2,Inv X pins σ H2 s2→RelV x v→RelV y u→R x y H2→wpAny (model X.prog X.w) X.A (f v u) Q X.xe s2) :
  wpAny (model X.prog X.w) X.A (eval a X.env) (fun v s₁=>wpAny (model X.prog X.w) X.A (eval b X.env) (fun u s₂=>wpAny (model X.prog X.w) X.A (f v u) Q X.xe s₂) X.xe s₁) X.xe s:=by
 refine jO (ha pins s σ H _ I h) fun v s1 ⟨x,H1,I1,r1,q1⟩=>?_
 refine jO (hb pins s1 σ H1 _ I1 q1) fun u s2 ⟨y,H2,I2,r2,q2⟩=>?_
 exact hf v u s2 x y H2 I2 r1 r2 q2
noncomputable def Hn (i:Nat):TE:=fun σ H Q=>∃v,σ[i]?=some (some v)∧Q v H
noncomputable def tC (v:V):TE:=fun _ H Q=>Q v H
theorem Yd {i:Nat} {x:Str} {pos:Pos} (hN:X.N[i]?=some x) (hv:HJ X.env.scope x) (hd:(x == ("__debug__" : Str))=false:=by decide) (hcd:(x == ("__classdict__" : Str))=false:=by decide):PE X (.Name x pos) (Hn i):=by
 intro pins s σ H Q I h
 obtain⟨v,e,h⟩:=h
 obtain⟨m,hn,hl⟩:=I.loc
 obtain⟨u,r,l⟩:=hl i x v hN e hv
 have fin:EP X pins σ Q u s:=⟨v,H,I,r,h⟩
 rcases l with ⟨hk,hm⟩ | ⟨hk,c,hc,hcell⟩
 ·exact wpAny_Name (wpAny_loadName_local I.ok.kind hk hn hm fin) hd
 ·rcases hk with hk | hk
  ·exact wpAny_Name (wpAny_loadName_cell I.ok.kind hk hc hcell fin) hd
  ·exact wpAny_Name (wpAny_loadName_free I.ok.kind hk hc hcell fin hcd) hd
theorem z9 {i j pos}:PE X (.Constant (.int i) j pos) (tC (.int i)):=fun _ _ _ H _ I h=>wpAny_Constant_int ⟨.int i,H,I.tok _,⟨_,rfl⟩,h⟩
theorem yr {b j pos}:PE X (.Constant (.bool b) j pos) (tC (.bl b)):=fun _ _ _ H _ I h=>Constant_bool ⟨.bl b,H,I,rfl,h⟩
theorem pK {j pos}:PE X (.Constant .none j pos) (tC .non):=fun _ _ _ H _ I h=>Constant_none ⟨.non,H,I,rfl,h⟩
theorem qk {x j pos}:PE X (.Constant (.str x) j pos) (tC (.str x)):=fun _ _ _ H _ I h=>Calls.Constant_str ⟨.str x,H,I.tok _,⟨_,rfl⟩,h⟩
noncomputable def Gl (X:Cx) (x:Str):Prop:=X.env.kindOf x=some .globalImplicit
theorem yj {E:Value→Shared→Prop} {pins:List (Addr × Obj)} {s:Shared} {σ:St} {H:Hp} {x:Str} {u:Value} {pos:Pos} {Q:Value→Shared→Prop} (I:Inv X pins σ H s) (hg:Gl X x) (hm:X.mg x=some u) (h:Q u s)
  (hd:(x == ("__debug__" : Str))=false:=by decide):wpAny (model X.prog X.w) X.A (eval (.Name x pos) X.env) Q E s:=
 Calls.Name_function_global I.ok.kind hg (Calls.loadGlobal_global (by rw[I.ok.glob];exact I.mod.glob.keeps I.bk) hm h) hd
theorem uf {E:Value→Shared→Prop} {pins:List (Addr × Obj)} {s:Shared} {σ:St} {H:Hp} {x:Str} {u:Value} {pos:Pos} {Q:Value→Shared→Prop} (I:Inv X pins σ H s) (hg:Gl X x) (hm:X.mg x=none) (hv:bootBuiltins x=some u) (h:Q u s)
  (hn:x≠"__name__":=by decide) (hd:(x == ("__debug__" : Str))=false:=by decide):wpAny (model X.prog X.w) X.A (eval (.Name x pos) X.env) Q E s:=by
 obtain⟨mb,h1,h2⟩:=I.mod.blt
 exact Calls.Name_function_global I.ok.kind hg (Calls.loadGlobal_builtin (by rw[I.ok.glob];exact I.mod.glob.keeps I.bk) hm (by rw[I.ok.blt];exact h1.keeps I.bk) ((h2 x hn).trans hv) h) hd
theorem xf {x:Str} {v:V} {u:Value} {pos:Pos} (hg:Gl X x) (hm:X.mg x=some u) (r:RelV v u) (hd:(x == ("__debug__" : Str))=false:=by decide):PE X (.Name x pos) (tC v):=
 fun _ _ _ H _ I h=>yj I hg hm ⟨v,H,I,r,h⟩ hd
theorem ZA {x:Str} {v:V} {u:Value} {pos:Pos} (hg:Gl X x) (hm:X.mg x=none) (hv:bootBuiltins x=some u) (r:RelV v u) (hn:x≠"__name__":=by decide) (hd:(x == ("__debug__" : Str))=false:=by decide):PE X (.Name x pos) (tC v):=
 fun _ _ _ H _ I h=>uf I hg hm hv ⟨v,H,I,r,h⟩ hn hd
noncomputable def HH (ta tb:TE) (k:Int→Int→Hp→Prop):St→Hp→Prop:=fun σ H=>ta σ H fun x H1=>tb σ H1 fun y H2=>∃i j,x=.int i∧y=.int j∧k i j H2
noncomputable def Fi (ta tb:TE):TE:=fun σ H Q=>HH ta tb (fun i j H2=>Q (.int (i + j)) H2) σ H
noncomputable def FP (ta tb:TE):TE:=fun σ H Q=>HH ta tb (fun i j H2=>Q (.int (i - j)) H2) σ H
noncomputable def FK (ta tb:TE):TE:=fun σ H Q=>HH ta tb (fun i j H2=>(-(2 ^ 64) < i∧i < 2 ^ 64)∧Q (.int (i * j)) H2) σ H
variable {a b:Expr} {ta tb:TE} {pos:Pos}
noncomputable def PC (X:Cx) (op:CmpOp) (a b:Expr) (t:TE):Prop:=
 ∀(pins:List (Addr × Obj)) (s:Shared) (σ:St) (H:Hp) (Q:VK),Inv X pins σ H s→t σ H Q→
  wpAny (model X.prog X.w) X.A (eval a X.env) (fun v s₁=>wpAny (model X.prog X.w) X.A (eval b X.env) (fun u s₂=>wpAny (model X.prog X.w) X.A (compareOp op v u) (EP X pins σ Q) X.xe s₂) X.xe s₁) X.xe s
noncomputable def Q0 (p:Int→Int→Bool) (ta tb:TE):TE:=fun σ H Q=>HH ta tb (fun i j H2=>Q (.bl (p i j)) H2) σ H
noncomputable abbrev F4:TE→TE→TE:=Q0 fun i j=>decide (i < j)
noncomputable abbrev F1:TE→TE→TE:=Q0 fun i j=>decide (i≤j)
noncomputable abbrev FA:TE→TE→TE:=Q0 fun i j=>decide (j < i)
noncomputable abbrev FE:TE→TE→TE:=Q0 fun i j=>decide (j≤i)
noncomputable abbrev FJ:TE→TE→TE:=Q0 fun i j=>decide (i=j)
noncomputable abbrev FV:TE→TE→TE:=Q0 fun i j=>!decide (i=j)
noncomputable def FX (ta:TE):TE:=fun σ H Q=>ta σ H fun x H1=>Q (.bl (decide (x=.non))) H1
noncomputable def PZ (ta:TE):TE:=fun σ H Q=>ta σ H fun x H1=>Q (.bl (!decide (x=.non))) H1
noncomputable def tB (t:TE):TT:=fun σ H Q=>t σ H fun x H1=>∃c,x=.bl c∧Q c H1
theorem lU {op:CmpOp} {t:TE} (h:PC X op a b t) (h1:behindInMarks op b=false:=by first | exact nobehind _ (by decide) (by decide) | rfl):PT X (.Compare a [op] [b] pos) (tB t):=by
 intro pins s σ H Q I hw
 refine wpAny_isTrue_Compare1 (jO (h pins s σ H _ I hw) fun v s1 h1=>jO h1 fun u s2 h2=>jO h2 fun c s3 ⟨x,H1,I1,r1,q1⟩=>?_) h1
 obtain⟨d,rfl,q⟩:=q1
 cases r1
 exact wpAny_truthy_bool ⟨H1,I1,q⟩
theorem vZ {e:Expr} {t:TE} (h:PE X e t) (he:∀whole,isTrue e X.env whole=(do let v ←whole;standAt e.pos;holding [v] (truthy v)):=by intro _;rfl):PT X e (tB t):=by
 intro pins s σ H Q I hw
 refine isTrue_plain (jO (h pins s σ H _ I hw) fun v s1 ⟨x,H1,I1,r1,q1⟩=>?_) (he _)
 obtain⟨d,rfl,q⟩:=q1
 cases r1
 exact wpAny_truthy_bool ⟨H1,I1,q⟩
variable {tA tB':TT} {rest:List Expr}
noncomputable def BV (t u:TT):TT:=fun σ H Q=>t σ H fun c H1=>if c=true then u σ H1 Q else Q false H1
noncomputable def FW (t u:TT):TT:=fun σ H Q=>t σ H fun c H1=>if c=true then Q true H1 else u σ H1 Q
noncomputable def BN (t:TT):TT:=fun σ H Q=>t σ H fun c H1=>Q (!c) H1
theorem rm (ha:PT X a tA):PW X (.BoolOp .And [a] pos) tA:=by
 intro wh pins s σ H Q I h
 refine isTrue_and (jO (ha pins s σ H Q I h) fun c s1 e=>?_)
 cases c with
 | true=>exact isTrue_and_nil e
 | false=>exact e
theorem bf (ha:PT X a tA):PW X (.BoolOp .Or [a] pos) tA:=by
 intro wh pins s σ H Q I h
 refine isTrue_or (jO (ha pins s σ H Q I h) fun c s1 e=>?_)
 cases c with
 | false=>exact isTrue_or_nil e
 | true=>exact e
theorem lR (ha:PT X a tA) (hb:PW X (.BoolOp .And (b :: rest) pos) tB'):PW X (.BoolOp .And (a :: b :: rest) pos) (BV tA tB'):=by
 intro wh pins s σ H Q I h
 refine isTrue_and (jO (ha pins s σ H _ I h) fun c s1 ⟨H1,I1,q1⟩=>?_)
 cases c with
 | true=>exact hb wh pins s1 σ H1 Q I1 q1
 | false=>exact⟨H1,I1,q1⟩
theorem fD (ha:PT X a tA) (hb:PW X (.BoolOp .Or (b :: rest) pos) tB'):PW X (.BoolOp .Or (a :: b :: rest) pos) (FW tA tB'):=by
 intro wh pins s σ H Q I h
 refine isTrue_or (jO (ha pins s σ H _ I h) fun c s1 ⟨H1,I1,q1⟩=>?_)
 cases c with
 | true=>exact⟨H1,I1,q1⟩
 | false=>exact hb wh pins s1 σ H1 Q I1 q1
theorem gu (ha:PT X a tA):PT X (.UnaryOp .Not a pos) (BN tA):=by
 intro pins s σ H Q I h
 exact isTrue_not (ha pins s σ H (fun c H1=>Q (!c) H1) I h)
noncomputable def Hg (ta tb:TE):TE:=fun σ H Q=>ta σ H fun x H1=>∃c,x=.bl c∧if c=true then tb σ H1 Q else Q (.bl false) H1
noncomputable def BO (ta tb:TE):TE:=fun σ H Q=>ta σ H fun x H1=>∃c,x=.bl c∧if c=true then Q (.bl true) H1 else tb σ H1 Q
noncomputable def Hu (ta:TE):TE:=fun σ H Q=>ta σ H fun x H1=>∃c,x=.bl c∧Q (.bl (!c)) H1
theorem lC {op} {t:TE} (h:PE X a t):PE X (.BoolOp op [a] pos) t:=fun pins s σ H Q I hw=>BoolOp_one (h pins s σ H Q I hw)
theorem oK (ha:PE X a ta) (hb:PE X (.BoolOp .And (b :: rest) pos) tb):PE X (.BoolOp .And (a :: b :: rest) pos) (Hg ta tb):=by
 intro pins s σ H Q I h
 refine BoolOp_and (jO (ha pins s σ H _ I h) fun v s1 ⟨x,H1,I1,r1,q1⟩=>?_)
 obtain⟨c,rfl,q1⟩:=q1
 cases r1
 refine wpAny_truthy_bool ?_
 cases c with
 | true=>exact hb pins s1 σ H1 Q I1 q1
 | false=>exact⟨.bl false,H1,I1,rfl,q1⟩
theorem GF (ha:PE X a ta) (hb:PE X (.BoolOp .Or (b :: rest) pos) tb):PE X (.BoolOp .Or (a :: b :: rest) pos) (BO ta tb):=by
 intro pins s σ H Q I h
 refine BoolOp_or (jO (ha pins s σ H _ I h) fun v s1 ⟨x,H1,I1,r1,q1⟩=>?_)
 obtain⟨c,rfl,q1⟩:=q1
 cases r1
 refine wpAny_truthy_bool ?_
 cases c with
 | false=>exact hb pins s1 σ H1 Q I1 q1
 | true=>exact⟨.bl true,H1,I1,rfl,q1⟩
theorem Yf (ha:PE X a ta):PE X (.UnaryOp .Not a pos) (Hu ta):=by
 intro pins s σ H Q I h
 refine UnaryOp_ (jO (ha pins s σ H _ I h) fun v s1 ⟨x,H1,I1,r1,q1⟩=>?_)
 obtain⟨c,rfl,q1⟩:=q1
 cases r1
 exact not_of (wpAny_truthy_bool ⟨.bl (!c),H1,I1,rfl,q1⟩)
noncomputable def F0 (t:TT) (ta tb:TE):TE:=fun σ H Q=>t σ H fun c H1=>if c=true then ta σ H1 Q else tb σ H1 Q
end
end L2
namespace L2
open PySem PySem.Spec PyProof.Rows
noncomputable def qM (K:PySem.W.Frag) (H:Hp) (a:Addr) (xs:List V):Prop:=
 Rd H a (.lst xs)∨
  ∃(o:Obj) (its:Array Value) (n:Nat),K.lookup a=some o∧o.cls=.type "list"∧o.dict=none∧o.data=.seq its n∧its.size≤sizeLine∧Vals xs its.toList
noncomputable def g9 (K:PySem.W.Frag) (H:Hp) (a:Addr) (xs:List V):Prop:=
 Rd H a (.tup xs)∨
  ∃(o:Obj) (its:Array Value) (n:Nat),K.lookup a=some o∧o.cls=.type "tuple"∧o.data=.seq its n∧its.size≤sizeLine∧Vals xs its.toList
noncomputable def HE:Value→Option V
 | .none=>some .non
 | .bool b=>some (.bl b)
 | .int i _=>some (.int i)
 | .str x _=>some (.str x)
 | .bytes b _=>some (.byt b)
 | .float b _=>some (.flt b)
 | .ref a=>some (.ref a)
 | .type n=>some (.ty n)
 | _=>none
theorem RelV.abs {x:V} {u:Value} (r:RelV x u):HE u=some x:=by
 cases x with
 | non=>cases r;rfl
 | bl _=>cases r;rfl
 | int _=>obtain⟨t,rfl⟩:=r;rfl
 | str _=>obtain⟨t,rfl⟩:=r;rfl
 | byt _=>obtain⟨t,rfl⟩:=r;rfl
 | flt _=>obtain⟨t,rfl⟩:=r;rfl
 | ref _=>cases r;rfl
 | ty _=>cases r;rfl
theorem RelV.inj {x y:V} {u:Value} (r:RelV x u) (q:RelV y u):x=y:=Option.some.inj (r.abs.symm.trans q.abs)
theorem Vals.inj:∀{xs ys:List V} {us:List Value},Vals xs us→Vals ys us→xs=ys
 | _,_,_,.nil,.nil=>rfl
 | _,_,_,.cons r t,.cons r' t'=>by rw[r.inj r',Vals.inj t t']
section
variable {X:Cx} {pins:List (Addr × Obj)} {σ:St} {H:Hp} {s:Shared} {a:Addr} {xs ys:List V}
theorem qM.of {K:PySem.W.Frag} (h:H a=some (.lst xs)):qM K H a xs:=.inl (.inl h)
theorem g9.of {K:PySem.W.Frag} (h:H a=some (.tup xs)):g9 K H a xs:=.inl (.inl h)
theorem Inv.list (I:Inv X pins σ H s) (h:qM X.K H a xs):∃its:List Value,Vals xs its∧PlainL s.heap a its.toArray∧xs.length≤sizeLine:=by
 rcases h with h | ⟨o,its,n,hk,hc,hd,hs,hz,r⟩
 ·obtain⟨z,its,n,r,e⟩:=h.ok I.jj
  exact⟨its,r,⟨_,n,e,rfl,rfl,rfl⟩,z⟩
 ·refine⟨its.toList,r,⟨o,n,I.gJ a o hk,hc,hd,by simpa using hs⟩,?_⟩
  have e:=r.length
  simp only[Array.length_toList] at e
  omega
theorem Inv.tuple (I:Inv X pins σ H s) (h:g9 X.K H a xs):∃its:List Value,Vals xs its∧IsTup s.heap a its.toArray∧xs.length≤sizeLine:=by
 rcases h with h | ⟨o,its,n,hk,hc,hs,hz,r⟩
 ·obtain⟨z,its,r,p⟩:=h.ok I.jj
  exact⟨its,r,p,z⟩
 ·refine⟨its.toList,r,⟨o,I.gJ a o hk,hc,n,by simpa using hs⟩,?_⟩
  have e:=r.length
  simp only[Array.length_toList] at e
  omega
theorem Inv.lj (I:Inv X pins σ H s) (h:qM X.K H a xs) (h':qM X.K H a ys):xs=ys:=by
 obtain⟨its,r,⟨o,n,e,_,_,d⟩,_⟩:=I.list h
 obtain⟨its',r',⟨o',n',e',_,_,d'⟩,_⟩:=I.list h'
 rw[e] at e';cases e'
 rw[d] at d'
 injection d' with d1 _
 have:its=its':=by simpa using congrArg Array.toList d1
 subst this
 exact r.inj r'
end
noncomputable abbrev Cx.tj (X:Cx) (E:Value→Shared→Prop):Cx:={ X with xe:=E }
noncomputable abbrev Cx.HK (X:Cx):Cx:=X.tj fun _ _=>False
theorem Cx.Ok.tj {X:Cx} (ok:X.Ok) (E:Value→Shared→Prop):(X.tj E).Ok:=
 ⟨ok.mod,ok.kind,ok.glob,ok.blt,ok.above,ok.inj,ok.has,ok.Y4,ok.hd,ok.frames,ok.Hw,ok.WU,ok.bs,ok.Qp,ok.aV,ok.iC,ok.d7,ok.KN⟩
theorem Cx.Ok.fO {X:Cx} {E:Value→Shared→Prop} (ok:(X.tj E).Ok):X.Ok:=
 ⟨ok.mod,ok.kind,ok.glob,ok.blt,ok.above,ok.inj,ok.has,ok.Y4,ok.hd,ok.frames,ok.Hw,ok.WU,ok.bs,ok.Qp,ok.aV,ok.iC,ok.d7,ok.KN⟩
section
variable {X:Cx} {pins:List (Addr × Obj)} {σ:St} {H:Hp} {s:Shared} {E:Value→Shared→Prop}
theorem Inv.tj (I:Inv X pins σ H s) (E:Value→Shared→Prop):Inv (X.tj E) pins σ H s:=⟨I.ok.tj E,I.os,I.bare,I.base,I.loc,I.cell,I.free,I.yX,I.pin,I.jj,I.len⟩
theorem Inv.fO (I:Inv (X.tj E) pins σ H s):Inv X pins σ H s:=⟨I.ok.fO,I.os,I.bare,I.base,I.loc,I.cell,I.free,I.yX,I.pin,I.jj,I.len⟩
theorem SP.fO {D:Ends} {f:Flow} {s':Shared} (h:SP (X.tj E) pins D f s'):SP X pins D f s':=by
 cases f with
 | next=>obtain⟨σ',H',I,q⟩:=h;exact⟨σ',H',I.fO,q⟩
 | brk=>obtain⟨σ',H',I,q⟩:=h;exact⟨σ',H',I.fO,q⟩
 | cont=>obtain⟨σ',H',I,q⟩:=h;exact⟨σ',H',I.fO,q⟩
 | ret u=>obtain⟨v,σ',H',I,r,q⟩:=h;exact⟨v,σ',H',I.fO,r,q⟩
theorem sW.HK {st:List Stmt} {t:TS} (h:sW X.HK st t):sW X st t:=fun pins s σ H D I hw=>
 wpAny_mono (h pins s σ H D (I.tj _) hw) (fun _ _ q=>q.fO) fun _ _ z=>False.elim z
end
section
variable {X:Cx} {st:Stmt} {rest:List Stmt} {t u:TS} {e:Expr} {te:TE} {pos:Pos}
noncomputable def Hc:TS:=fun D σ H=>D.nx σ H
noncomputable def BE (t u:TS):TS:=fun D σ H=>t { D with nx:=u D } σ H
theorem ql:sW X [] Hc:=fun _ _ σ H _ I h=>wpAny_execs_nil ⟨σ,H,I,h⟩
theorem z7 (h1:PS X st t) (h2:sW X rest u):sW X (st :: rest) (BE t u):=by
 intro pins s σ H D I h
 refine wpAny_execs_cons (jO (h1 pins s σ H { D with nx:=u D } I h) fun f s1 q=>?_)
 cases f with
 | next=>
  obtain⟨σ',H',I',q⟩:=q
  exact h2 pins s1 σ' H' D I' q
 | ret v=>exact q
 | brk=>exact q
 | cont=>exact q
theorem qz (h1:PS X st t):sW X [st] t:=by
 intro pins s σ H D I h
 refine wpAny_execs_cons (jO (h1 pins s σ H D I h) fun f s1 q=>?_)
 cases f with
 | next=>exact wpAny_execs_nil q
 | ret v=>exact q
 | brk=>exact q
 | cont=>exact q
noncomputable def YH:TS:=fun D σ H=>D.bk σ H
noncomputable def Pn:TS:=fun D σ H=>D.ct σ H
theorem Xn:PS X (.Break pos) YH:=fun _ _ σ H _ I h=>wpAny_Break ⟨σ,H,I,h⟩
theorem Inv.quiet {pins:List (Addr × Obj)} {σ:St} {H:Hp} {s:Shared} (I:Inv X pins σ H s):interactive X.env=false:=by simp [interactive,I.ok.kind]
noncomputable def Hm (te:TE):TS:=fun D σ H=>te σ H fun _ H1=>D.nx σ H1
theorem jU (he:PE X e te) (hs:swapsWith e none pos.line X.env=pure false:=by rfl):PS X (.Expr e pos) (Hm te):=by
 intro pins s σ H D I h
 exact wpAny_Expr_any (jO (he pins s σ H _ I h) fun v s1 ⟨x,H1,I1,r1,q1⟩=>⟨σ,H1,I1,q1⟩) I.quiet hs
noncomputable def BI (te:TE):TS:=fun D σ H=>te σ H D.rt
theorem qf (he:PE X e te):PS X (.Return (some e) pos) (BI te):=by
 intro pins s σ H D I h
 exact wpAny_Return_some (jO (he pins s σ H _ I h) fun v s1 ⟨x,H1,I1,r1,q1⟩=>⟨x,σ,H1,I1,r1,q1⟩)
noncomputable def PQ:TS:=fun D _ H=>D.rt .non H
noncomputable def BU (c:TT) (t u:TS):TS:=fun D σ H=>c σ H fun b H1=>if b=true then t D σ H1 else u D σ H1
theorem qF {c:Expr} {a b:List Stmt} {tc:TT} (hc:PT X c tc) (ha:sW X a t) (hb:sW X b u):PS X (.If c a b pos) (BU tc t u):=by
 intro pins s σ H D I h
 refine wpAny_If (jO (hc pins s σ H _ I h) fun d s1 ⟨H1,I1,q1⟩=>?_)
 cases d with
 | true=>exact ha pins s1 σ H1 D I1 q1
 | false=>exact hb pins s1 σ H1 D I1 q1
noncomputable def BS:TS:=fun _ _ _=>False
end
noncomputable abbrev TG:=V→St→Hp→(St→Hp→Prop)→Prop
noncomputable abbrev VR:=List V→St→Hp→(St→Hp→Prop)→Prop
noncomputable def PG (X:Cx) (target:Expr) (t:TG):Prop:=
 ∀(pins:List (Addr × Obj)) (s:Shared) (σ:St) (H:Hp) (v:V) (u:Value) (Q:St→Hp→Prop),Inv X pins σ H s→RelV v u→t v σ H Q→
  wpAny (model X.prog X.w) X.A (assign target X.env u) (fun _ s'=>∃σ' H',Inv X pins σ' H' s'∧Q σ' H') X.xe s
noncomputable def Y3 (X:Cx) (ts:List Expr) (t:VR):Prop:=
 ∀(pins:List (Addr × Obj)) (s:Shared) (σ:St) (H:Hp) (vs:List V) (us:List Value) (Q:St→Hp→Prop),Inv X pins σ H s→Vals vs us→t vs σ H Q→
  wpAny (model X.prog X.w) X.A (assignInOrder ((assignEach ts X.env).map (·.2)) us) (fun _ s'=>∃σ' H',Inv X pins σ' H' s'∧Q σ' H') X.xe s
noncomputable abbrev Ke:=V→V→V→Hp→(Hp→Prop)→Prop
noncomputable def Ko (X:Cx) (t:Ke):Prop:=
 ∀(pins:List (Addr × Obj)) (s:Shared) (σ:St) (H:Hp) (o i v:V) (ov iv u:Value) (Q:Hp→Prop),Inv X pins σ H s→RelV o ov→RelV i iv→RelV v u→t o i v H Q→
  wpAny (model X.prog X.w) X.A (setItem ov iv u) (fun _ s'=>∃H',Inv X pins σ H' s'∧Q H') X.xe s
noncomputable abbrev HQ:=V→V→Hp→VK→Prop
noncomputable def FR (X:Cx) (op:Operator) (t:HQ):Prop:=
 ∀(pins:List (Addr × Obj)) (s:Shared) (σ:St) (H:Hp) (x y:V) (v u:Value) (Q:VK),Inv X pins σ H s→RelV x v→RelV y u→t x y H Q→
  wpAny (model X.prog X.w) X.A (inplaceOp op v u) (EP X pins σ Q) X.xe s
section
variable {X:Cx} {pos:Pos}
noncomputable def jN (i:Nat):TG:=fun v σ H Q=>Q (σ.set i (some v)) H
theorem jr {i:Nat} {x:Str} (hN:X.N.Nodup) (hi:X.N[i]?=some x) (hx:Loc X.env.scope x) (hf:X.fn x=true∨X.env.scope.names.lookup x=some .local:=by first | exact .inl rfl | exact .inr rfl | assumption):PG X (.Name x pos) (jN i):=by
 intro pins s σ H v u Q I r h
 exact wpAny_assign_Name (gs I hN hi hx r (fun s' I'=>⟨_,H,I',h⟩) hf)
noncomputable def Gs:VR:=fun vs σ H Q=>vs=[]∧Q σ H
noncomputable def JK (t:TG) (u:VR):VR:=fun vs σ H Q=>∃v r,vs=v :: r∧t v σ H fun σ' H'=>u r σ' H' Q
theorem cY:Y3 X [] Gs:=by
 intro pins s σ H vs us Q I r h
 obtain⟨e,h⟩:=h
 subst e
 cases r
 exact assignInOrder_nil ⟨σ,H,I,h⟩
theorem vf {e:Expr} {es:List Expr} {t:TG} {u:VR} (h1:PG X e t) (h2:Y3 X es u)
  (hs:(assignEach (e :: es) X.env).map (·.2)=assign e X.env :: (assignEach es X.env).map (·.2):=by rfl):Y3 X (e :: es) (JK t u):=by
 intro pins s σ H vs us Q I r h
 obtain⟨v,vr,e1,h⟩:=h
 subst e1
 cases r with
 | cons r rr=>
  rw[hs]
  refine assignInOrder_cons (jO (h1 pins s σ H _ _ _ I r h) fun _ s1 ⟨σ1,H1,I1,q1⟩=>?_)
  exact h2 pins s1 σ1 H1 _ _ Q I1 rr q1
noncomputable def WT (K:PySem.W.Frag) (n:Nat) (t:VR):TG:=fun v σ H Q=>∃a xs,v=.ref a∧g9 K H a xs∧xs.length=n∧t xs σ H Q
theorem Yc {es:List Expr} {k:Nat} {t:VR} {n:Nat} (hc:X.calm=true) (h:Y3 X es t)
  (hn:(assignEach es X.env).length=n:=by rfl) (hst:(assignEach es X.env).findIdx? (·.1)=none:=by rfl):PG X (.Tuple es k pos) (WT X.K n t):=by
 intro pins s σ H v u Q I r hw
 obtain⟨a,xs,e1,hq,hl,hw⟩:=hw
 subst e1
 cases r
 obtain⟨its,rv,ht,hz⟩:=I.tuple hq
 refine assign_Tuple_tuple (I.ok.hd hc) ht (by simp [hn,←hl,rv.length]) hst fun h' hx=>?_
 have I1:Inv X pins σ H { s with heap:=h' }:=I.kept (t':=s.toks) fun b o e=>hx b o (Nat.ne_of_lt (Heap.lt_size e)) e
 exact h pins _ σ H xs _ Q I1 (by simpa using rv) hw
noncomputable def Bk (to ti:TE) (t:Ke):TG:=fun v σ H Q=>to σ H fun o H1=>ti σ H1 fun i H2=>t o i v H2 fun H3=>Q σ H3
theorem gd {o i:Expr} {to ti:TE} {t:Ke} (ho:PE X o to) (hi:PE X i ti) (hs:Ko X t)
  (ha:∀v,assign (.Subscript o i pos) X.env v=(do
   let ov ←holding [v] (eval o X.env)
   let iv ←holding [v,ov] (eval i X.env)
   standAt pos
   holding [v,ov,iv] (setItem ov iv v)
   release [v,ov,iv] []):=by intro _;rfl):PG X (.Subscript o i pos) (Bk to ti t):=by
 intro pins s σ H v u Q I r h
 rw[ha]
 refine wpAny_bind (wpAny_holding (jO (ho pins s σ H _ I h) fun ov s1 ⟨x,H1,I1,r1,q1⟩=>?_))
 refine wpAny_bind (wpAny_holding (jO (hi pins s1 σ H1 _ I1 q1) fun iv s2 ⟨y,H2,I2,r2,q2⟩=>?_))
 refine wpAny_bind (wpAny_standAt (wpAny_bind (wpAny_holding (jO (hs pins s2 σ H2 x y v ov iv u _ I2 r1 r2 r q2) fun _ s3 ⟨H3,I3,q3⟩=>?_))))
 exact wpAny_release ⟨σ,H3,I3,q3⟩
noncomputable def QA (te:TE) (g:TG):TS:=fun D σ H=>te σ H fun x H1=>g x σ H1 D.nx
theorem gc {tg e:Expr} {te:TE} {g:TG} (he:PE X e te) (hg:PG X tg g) (hs:swapsWithSole [tg] e pos.line X.env=pure false:=by rfl) (hw:swappedStores [tg] e X.env=pure none:=by rfl)
  (h1:(assignEach [tg] X.env).map (·.2)=[assign tg X.env]:=by rfl):PS X (.Assign [tg] e pos) (QA te g):=by
 intro pins s σ H D I h
 refine wpAny_Assign_stores (jO (he pins s σ H _ I h) fun v s1 ⟨x,H1,I1,r1,q1⟩=>?_) hs hw
 rw[h1]
 exact jO (hg pins s1 σ H1 x v _ I1 r1 q1) fun _ s2 q=>q
theorem qu {i:Nat} {x:Str} {e:Expr} {te:TE} {pos':Pos} (hN:X.N.Nodup) (hi:X.N[i]?=some x) (hx:Loc X.env.scope x) (he:PE X e te) (hs:swapsWith e (some (.Name x pos')) pos.line X.env=pure false:=by rfl) (hf:X.fn x=true∨X.env.scope.names.lookup x=some .local:=by first | exact .inl rfl | exact .inr rfl | assumption) :
  PS X (.Assign [.Name x pos'] e pos) (QA te (jN i)):=by
 intro pins s σ H D I h
 refine wpAny_Assign_Name (jO (he pins s σ H _ I h) fun v s1 ⟨y,H1,I1,r1,q1⟩=>?_) hs
 exact gs I1 hN hi hx r1 (fun s2 I2=>⟨_,H1,I2,q1⟩) hf
noncomputable def FY (i j:Nat) (ta:TA):TS:=fun D σ H=>ta σ H fun vs H1=>∃v w,vs=[v,w]∧D.nx ((σ.set i (some v)).set j (some w)) H1
noncomputable def Fe (i:Nat) (te:TE) (ti:HQ):TS:=fun D σ H=>∃x,σ[i]?=some (some x)∧te σ H fun y H1=>ti x y H1 fun z H2=>D.nx (σ.set i (some z)) H2
noncomputable def Pl (to ti te:TE) (tget:V→V→Hp→VK→Prop) (tip:HQ) (tset:Ke):TS:=fun D σ H=>to σ H fun o H1=>ti σ H1 fun i H2=>tget o i H2 fun x H3=>te σ H3 fun y H4=>tip x y H4 fun z H5=>tset o i z H5 fun H6=>D.nx σ H6
noncomputable def PL (X:Cx) (t:V→V→Hp→VK→Prop):Prop:=
 ∀(pins:List (Addr × Obj)) (s:Shared) (σ:St) (H:Hp) (o i:V) (ov iv:Value) (Q:VK),Inv X pins σ H s→RelV o ov→RelV i iv→t o i H Q→
  wpAny (model X.prog X.w) X.A (getItem ov iv) (EP X pins σ Q) X.xe s
noncomputable def FN (f:Int→Int→Int):HQ:=fun x y H Q=>∃i j,x=.int i∧y=.int j∧Q (.int (f i j)) H
end
section
variable {X:Cx} {pos:Pos}
noncomputable def B0 (c:TT) (tb:TS):TS:=fun D σ H=>∃W:Nat→St→Hp→Prop,(∃m,W m σ H)∧∀m σ H,W m σ H→
 c σ H fun b H1=>if b=true then ∃N:St→Hp→Prop,(∀σ' H',N σ' H'→∃m',m' < m∧W m' σ' H')∧tb { D with nx:=N,ct:=N,bk:=D.nx } σ H1 else D.nx σ H1
end
structure It where
 go:Nat→Hp→Prop
 WZ:Nat→Hp→V→Hp→Prop
 stop:Nat→Hp→Prop
noncomputable def yT (X:Cx) (pins:List (Addr × Obj)) (H:Hp) (b:Addr):Prop:=
 H b=none∧b≠X.env.locals∧b∉X.fs∧(b∈X.ex∨X.s₀.heap.objs.size≤b)∧(∀x c,X.env.cells.lookup x=some c→c≠b)∧∀p∈X.pn ++ pins,p.1≠b
theorem Inv.ag {X:Cx} {pins:List (Addr × Obj)} {σ:St} {H H':Hp} {s:Shared} {b:Addr} (I:Inv X pins σ H s) (hb:s.heap.objs.size≤b) (hn:H' b=none):yT X pins H' b:=by
 refine⟨hn,Nat.ne_of_gt (Nat.lt_of_lt_of_le I.lt hb),I.Bc hb,.inr (Nat.le_trans I.sz hb),fun x c e z=>?_,fun p hp z=>?_⟩
 ·obtain⟨v,q⟩:=I.cell x c e
  exact absurd (Nat.lt_of_lt_of_le q.lt (by rw[z];exact hb)) (Nat.lt_irrefl _)
 ·exact absurd (Nat.lt_of_lt_of_le (Heap.lt_size (I.pin p hp).1) (by rw[z];exact hb)) (Nat.lt_irrefl _)
structure Turn (P:Program) (w:World) (K:PySem.W.Frag) (tg:Expr) (J:It) (fp:List Addr) (it:Addr) (tn:Nat→Heap→Prop):Prop where
 mem:it∈fp
 obj:∀i h,tn i h→∀b∈fp,∃o,h.get? b=some o∧∀v,o.data≠.cell v
 keep:∀i h h',tn i h→(∀b∈fp,∀o,h.get? b=some o→h'.get? b=some o)→tn i h'
 item:∀(X:Cx),X.prog=P→X.w=w→X.K=K→X.calm=true→∀(i:Nat) (pins:List (Addr × Obj)) (s:Shared) (σ:St) (H:Hp) (E:Value→Shared→Prop),Inv X pins σ H s→(∀b∈fp,yT X pins H b)→tn i s.heap→J.go i H→
  wpAny (model P w) X.A (pyNext (.ref it)) (fun r s1=>∃u,r=some u∧
   wpAny (model P w) X.A (letOwnedTupleGo tg (.ref it) u) (fun _ s2=>∃x H',Inv X pins σ H' s2∧RelV x u∧J.WZ i H x H'∧tn (i + 1) s2.heap∧∀b∈fp,H' b=none) E s1) E s
 done:∀(X:Cx),X.prog=P→X.w=w→X.K=K→X.calm=true→∀(i:Nat) (pins:List (Addr × Obj)) (s:Shared) (σ:St) (H:Hp) (E:Value→Shared→Prop),Inv X pins σ H s→(∀b∈fp,yT X pins H b)→tn i s.heap→J.stop i H→
  wpAny (model P w) X.A (pyNext (.ref it)) (fun r s1=>r=none∧Inv X pins σ H s1) E s
 self:∀(A:Around) (i:Nat) (s:Shared) (Q:Value→Shared→Prop) (E:Value→Shared→Prop),tn i s.heap→Q (.ref it) s→wpAny (model P w) A (pyIter (.ref it)) Q E s
noncomputable abbrev TI:=St→Hp→(It→Hp→Prop)→Prop
noncomputable def Pz (X:Cx) (pins:List (Addr × Obj)) (σ:St) (tg:Expr) (R:It→Hp→Prop) (itv:Value) (s2:Shared):Prop:=
 ∃(it:Addr) (fp:List Addr) (tn:Nat→Heap→Prop) (J:It) (H':Hp),itv=.ref it∧Inv X pins σ H' s2∧Turn X.prog X.w X.K tg J fp it tn∧tn 0 s2.heap∧(∀b∈fp,yT X pins H' b)∧R J H'
noncomputable def PI (X:Cx) (tg iter:Expr) (wi:TI):Prop:=
 ∀(pins:List (Addr × Obj)) (s:Shared) (σ:St) (H:Hp) (R:It→Hp→Prop),Inv X pins σ H s→wi σ H R→
  wpAny (model X.prog X.w) X.A (eval iter X.env) (fun v s1=>wpAny (model X.prog X.w) X.A (pyIter v) (Pz X pins σ tg R) X.xe s1) X.xe s
theorem Za {M:Model} {A:Around} {E:Value→Shared→Prop} {s:Shared} {tg:Expr} {it:Addr} {u:Value} {o:Obj} {n:String} {vs:Array Value} {Q:Unit→Shared→Prop} (ho:s.heap.get? it=some o) (hc:o.cls=.type n) (hd:o.data=.fields vs)
  (hn:["enumerate","zip","dict_itemiterator","dict_reverseitemiterator","odict_iterator","itertools.zip_longest","itertools.pairwise"].contains n=false) (hQ:Q () s):wpAny M A (letOwnedTupleGo tg (.ref it) u) Q E s:=by
 unfold letOwnedTupleGo
 cases tg<;>first
  | exact wpAny_pure hQ
  | (cases u<;>first
    | exact wpAny_pure hQ
    | (refine wpAny_bind (wpAny_load ho ?_);rw[hc,hd];show wpAny M A (if (["enumerate","zip","dict_itemiterator","dict_reverseitemiterator","odict_iterator","itertools.zip_longest","itertools.pairwise"].contains n && vs[0]? == some (rawInt _))=true then _ else _) Q E s;rw[if_neg (by intro h;rw[hn,Bool.false_and] at h;cases h)];exact wpAny_pure hQ))
noncomputable def Y1 (K:PySem.W.Frag) (a:Addr):It:=
 ⟨fun i H=>∃xs x,qM K H a xs∧xs[i]?=some x,fun i H x H'=>H'=H∧∀xs,qM K H a xs→xs[i]?=some x,fun i H=>∃xs,qM K H a xs∧xs.length≤i⟩
noncomputable def PU (K:PySem.W.Frag) (a:Addr):It:=
 ⟨fun i H=>∃xs x,g9 K H a xs∧xs[i]?=some x,fun i H x H'=>H'=H∧∀xs,g9 K H a xs→xs[i]?=some x,fun i H=>∃xs,g9 K H a xs∧xs.length≤i⟩
noncomputable def VU (lo:Int) (n:Nat):It:=⟨fun i _=>i < n,fun i H x H'=>H'=H∧x=.int (lo + i),fun i _=>n≤i⟩
theorem Q2 {P:Program} {w:World} {K:PySem.W.Frag} {tg:Expr} (a it:Addr):Turn P w K tg (Y1 K a) [it] it (fun i h=>h.IsListIter it a i) where
 mem:=by simp
 obj:=fun i h st b hb=>by
  have e:b=it:=by simpa using hb
  subst e
  obtain⟨o,e,c,d⟩:=st
  exact⟨o,e,fun v z=>by rw[d] at z;cases z⟩
 keep:=fun i h h' st k=>st.at fun o e=>k it (by simp) o e
 item:=by
  intro X hP hw hK hc i pins s σ H E I hf st hg
  subst hP hw hK
  obtain⟨xs,x,hq,hx⟩:=hg
  obtain⟨its,rv,p,hz⟩:=I.list hq
  obtain⟨u,hu,ru⟩:=rv.get hx
  obtain⟨f0,f1,f2,f3,f4,f5⟩:=hf it (by simp)
  refine wpAny_pyNext_list_item st p.isList (x:=u) (by simpa using hu) fun h' st' sb=>?_
  have I1:Inv X pins σ H { s with heap:=h' }:=I.turned (t':=s.toks) (fun b o hb e=>(sb.2 b hb).trans e) f0 f1 f3 f4 f5
  obtain⟨o,e,c,d⟩:=id st'
  exact⟨u,rfl,Za (s:={ s with heap:=h' }) e c d (by decide) ⟨x,H,I1,ru,⟨rfl,fun ys hy=>by rw[I.lj hy hq];exact hx⟩,st',fun b hb=>(hf b hb).1⟩⟩
 done:=by
  intro X hP hw hK hc i pins s σ H E I hf st hg
  subst hP hw hK
  obtain⟨xs,hq,hx⟩:=hg
  obtain⟨its,rv,p,hz⟩:=I.list hq
  obtain⟨f0,f1,f2,f3,f4,f5⟩:=hf it (by simp)
  have hl:=rv.length
  exact wpAny_pyNext_list_end (I.ok.hd hc) st p.isList (by simp;omega) fun h' eb=>⟨rfl,I.turned (t':=s.toks) (fun b o hb e=>eb b o hb e) f0 f1 f3 f4 f5⟩
 self:=fun _ _ _ _ _ st h=>wpAny_pyIter_listiter st h
theorem Zq {P:Program} {w:World} {K:PySem.W.Frag} {tg:Expr} (it:Addr) (lo:Int) (n:Nat):Turn P w K tg (VU lo n) [it] it (fun i h=>IsRangeIter h it (lo + (i:Nat) * 1) ((n:Int) - (i:Nat)) 1) where
 mem:=by simp
 obj:=fun i h st b hb=>by
  have e:b=it:=by simpa using hb
  subst e
  exact⟨_,st,fun v z=>by
   have z':Data.fields _=Data.cell v:=z
   cases z'⟩
 keep:=fun i h h' st k=>k it (by simp) _ st
 item:=by
  intro X hP hw hK hc i pins s σ H E I hf st hg
  subst hP hw hK
  obtain⟨f0,f1,f2,f3,f4,f5⟩:=hf it (by simp)
  have W:=Walks.range (prog:=X.prog) (w:=X.w) (I.ok.hd hc) it lo 1 n
  refine W.item i s _ _ hg st fun v h' tk hv st' kk=>?_
  obtain⟨t,rfl⟩:=hv
  have I1:Inv X pins σ H { s with heap:=h',toks:=tk }:=I.turned (fun b o hb e=>kk b o (by simpa using hb) e) f0 f1 f3 f4 f5
  refine⟨_,rfl,Za (s:={ s with heap:=h',toks:=tk }) (n:="range_iterator") st' rfl rfl (by decide) ⟨.int (lo + i),H,I1,⟨t,?_⟩,⟨rfl,rfl⟩,st',fun b hb=>(hf b hb).1⟩⟩
  rw[Int.mul_one]
 done:=by
  intro X hP hw hK hc i pins s σ H E I hf st hg
  subst hP hw hK
  obtain⟨f0,f1,f2,f3,f4,f5⟩:=hf it (by simp)
  exact wpAny_pyNext_range_end (I.ok.hd hc) st (by have:n≤i:=hg;omega) fun h' eb=>⟨rfl,I.turned (t':=s.toks) (fun b o hb e=>eb b o hb e) f0 f1 f3 f4 f5⟩
 self:=fun _ _ _ _ _ st h=>wpAny_pyIter_rangeiter st h
end L2
namespace L2
open PySem PySem.Spec PyProof.Rows
section
variable {X:Cx} {tg:Expr}
noncomputable def V0 (K:PySem.W.Frag) (tl:TE):TI:=fun σ H R=>tl σ H fun x H1=>∃a,x=.ref a∧(∃xs,qM K H1 a xs)∧R (Y1 K a) H1
noncomputable def Fv (K:PySem.W.Frag) (tl:TE):TI:=fun σ H R=>tl σ H fun x H1=>∃a,x=.ref a∧(∃xs,g9 K H1 a xs)∧R (PU K a) H1
theorem Vp {l:Expr} {tl:TE} (hl:PE X l tl):PI X tg l (V0 X.K tl):=by
 intro pins s σ H R I h
 refine jO (hl pins s σ H _ I h) fun v s1 ⟨x,H1,I1,r1,q1⟩=>?_
 obtain⟨a,e,⟨xs,hq⟩,q⟩:=q1
 subst e
 cases r1
 obtain⟨its,rv,p,hz⟩:=I1.list hq
 refine wpAny_pyIter_list p.isList ?_
 refine⟨s1.heap.objs.size,[s1.heap.objs.size],_,_,H1,rfl,I1.kept (t':=s1.toks) fun b o e=>Heap.get?_push_of_some _ e,Q2 a _,⟨_,Heap.get?_push_size _ rfl,rfl,rfl⟩,fun b hb=>?_,q⟩
 have e:b=s1.heap.objs.size:=by simpa using hb
 subst e
 exact I1.ag (Nat.le_refl _) (I1.jj.fresh (Nat.le_refl _))
theorem eZ {pins:List (Addr × Obj)} {σ:St} {H:Hp} {s:Shared} {R:It→Hp→Prop} {E:Value→Shared→Prop} {lo hi:Int} {t u v:Tok} {tk:Nat} (I:Inv X pins σ H s) (h1:-(2 ^ 62)≤lo) (h2:lo < 2 ^ 62) (h3:-(2 ^ 62)≤hi) (h4:hi < 2 ^ 62)
  (q:R (VU lo (hi - lo).toNat) H):wpAny (model X.prog X.w) X.A (pyIter (.ref s.heap.objs.size)) (Pz X pins σ tg R) E { s with heap:=s.heap.push { cls:=.type "range",data:=.fields #[.int lo t,.int hi u,.int 1 v] },toks:=tk }:=by
 refine wpAny_pyIter_range (IsRange.new ..) (small_one h1 h2 h3 h4) ?_
 have I1:Inv X pins σ H { s with heap:=s.heap.push { cls:=.type "range",data:=.fields #[.int lo t,.int hi u,.int 1 v] },toks:=tk }:=I.kept fun b o e=>Heap.get?_push_of_some _ e
 refine⟨(s.heap.push { cls:=.type "range",data:=.fields #[.int lo t,.int hi u,.int 1 v] }).objs.size,[(s.heap.push { cls:=.type "range",data:=.fields #[.int lo t,.int hi u,.int 1 v] }).objs.size],_,_,H,rfl,
  I1.kept (t':=tk) fun b o e=>Heap.get?_push_of_some _ e,Zq _ lo (hi - lo).toNat,?_,fun b hb=>?_,q⟩
 ·have e1:lo + ((0:Nat):Int) * 1=lo:=by simp
  have e2:(((hi - lo).toNat:Nat):Int) - ((0:Nat):Int)=Builtin.Range.rangeSize lo hi 1:=by rw[rangeSize_one];split<;>omega
  show IsRangeIter _ _ (lo + ((0:Nat):Int) * 1) ((((hi - lo).toNat:Nat):Int) - ((0:Nat):Int)) 1
  rw[e1,e2]
  exact Heap.get?_push_size _ rfl
 ·have e:b=(s.heap.push { cls:=.type "range",data:=.fields #[.int lo t,.int hi u,.int 1 v] }).objs.size:=by simpa using hb
  subst e
  exact I1.ag (Nat.le_refl _) (I1.jj.fresh (Nat.le_refl _))
noncomputable def Gi (ta:TA):TI:=fun σ H R=>ta σ H fun vs H1=>∃j:Int,vs=[.int j]∧-(2 ^ 62)≤j∧j < 2 ^ 62∧R (VU 0 j.toNat) H1
noncomputable def Ge (ta:TA):TI:=fun σ H R=>ta σ H fun vs H1=>∃i j:Int,vs=[.int i,.int j]∧(-(2 ^ 62)≤i∧i < 2 ^ 62∧-(2 ^ 62)≤j∧j < 2 ^ 62)∧R (VU i (j - i).toNat) H1
theorem yL {a:Expr} {ta:TA} {p pos:Pos} (hg:Gl X "range") (hm:X.mg "range" = none) (ha:PA X [a] ta) (hs:starEach [a] X.env=[(false,eval a X.env)]:=by rfl):PI X tg (.Call (.Name "range" p) [a] [] pos) (Gi ta):=by
 intro pins s σ H R I h
 refine Call_ (uf I hg hm boot_range (PyProof.Rows.callWith_type1 (jO (ha pos pins s σ H _ I h) fun us s1 ⟨vs,H1,I1,r1,q1⟩=>?_) hs rfl))
 obtain⟨j,e,q1,q2,q⟩:=q1
 subst e
 cases r1 with
 | cons r rr=>
  cases rr
  obtain⟨t,rfl⟩:=r
  exact call_range_1 (eZ I1 (by omega) (by omega) q1 q2 (by simpa using q))
theorem QD {a b:Expr} {ta:TA} {p pos:Pos} (hg:Gl X "range") (hm:X.mg "range" = none) (ha:PA X [a,b] ta) (hs:starEach [a,b] X.env=[(false,eval a X.env),(false,eval b X.env)]:=by rfl) (hs2:starEach [b] X.env=[(false,eval b X.env)]:=by rfl) :
  PI X tg (.Call (.Name "range" p) [a,b] [] pos) (Ge ta):=by
 intro pins s σ H R I h
 refine Call_ (uf I hg hm boot_range (PyProof.Rows.callWith_type1 (jO (ha pos pins s σ H _ I h) fun us s1 ⟨vs,H1,I1,r1,q1⟩=>?_) (by rw[hs,hs2]) (by rw[hs2];rfl)))
 obtain⟨i,j,e,⟨q1,q2,q3,q4⟩,q⟩:=q1
 subst e
 cases r1 with
 | cons r rr=>
  cases rr with
  | cons r' rr=>
   cases rr
   obtain⟨t,rfl⟩:=r
   obtain⟨t',rfl⟩:=r'
   exact call_range_2 (eZ I1 q1 q2 q3 q4 q)
noncomputable def BC (wi:TI) (g:TG) (tb:TS):TS:=fun D σ H=>wi σ H fun J H1=>∃W:Nat→Nat→St→Hp→Prop,(∃m,W 0 m σ H1)∧∀i m σ H,W i m σ H→
 (J.stop i H∧D.nx σ H)∨(J.go i H∧∃N:St→Hp→Prop,(∀σ' H',N σ' H'→∃m',m' < m∧W (i + 1) m' σ' H')∧∀x H',J.WZ i H x H'→g x σ H' fun σ2 H2=>tb { D with nx:=N,ct:=N,bk:=D.nx } σ2 H2)
noncomputable def dX (fp:List Addr) (h:Heap):List (Addr × Obj):=fp.filterMap fun b=>(h.get? b).map fun o=>(b,o)
theorem va {fp:List Addr} {h:Heap} {b:Addr} {o:Obj} (hb:b∈fp) (e:h.get? b=some o):(b,o)∈dX fp h:=List.mem_filterMap.mpr ⟨b,hb,by rw[e];rfl⟩
theorem QH {fp:List Addr} {h:Heap} {p:Addr × Obj} (hp:p∈dX fp h):p.1∈fp∧h.get? p.1=some p.2:=by
 obtain⟨b,hb,e⟩:=List.mem_filterMap.mp hp
 cases q:h.get? b with
 | none=>rw[q] at e;cases e
 | some o=>
  rw[q] at e
  have e':(b,o)=p:=Option.some.inj e
  subst e'
  exact⟨hb,q⟩
theorem Inv.pinned {pins:List (Addr × Obj)} {σ:St} {H:Hp} {s:Shared} {fp:List Addr} (I:Inv X pins σ H s) (hf:∀b∈fp,yT X pins H b) (ho:∀b∈fp,∃o,s.heap.get? b=some o∧∀v,o.data≠.cell v):Inv X (pins ++ dX fp s.heap) σ H s:=
 I.cG fun p hp=>(List.mem_append.mp hp).elim (fun z=>I.pin p (List.mem_append_right _ z)) fun z=>by
  obtain⟨hb,e⟩:=QH z
  obtain⟨f0,f1,f2,_⟩:=hf p.1 hb
  obtain⟨o,e',d⟩:=ho p.1 hb
  rw[e] at e';cases e'
  exact⟨e,f0,f1,f2,d⟩
theorem Inv.kX {pins pl:List (Addr × Obj)} {σ:St} {H:Hp} {s:Shared} (I:Inv X (pins ++ pl) σ H s):Inv X pins σ H s:=I.cG fun p hp=>I.pin p (List.mem_append_right _ (List.mem_append_left _ hp))
theorem wZ {iter:Expr} {body:List Stmt} {wi:TI} {g:TG} {tb:TS} {pos:Pos} (hp:PassesOwn (model X.prog X.w) X.A X.env X.xe) (hc:X.calm=true) (hi:PI X tg iter wi) (hg:PG X tg g) (hb:sW X body tb)
  (hs:∀x,foldedSetIterable iter X.env x=pure x:=by intro _;rfl):PS X (.For tg iter body [] pos) (BC wi g tb):=by
 intro pins s σ H D I h
 refine wpAny_For (jO (hi pins s σ H _ I h) fun v s1 h1=>jO h1 fun itv s2 h2=>?_) hs
 obtain⟨it,fp,tn,J,H2,e,I2,T,st2,f2,W,⟨m0,w0⟩,turn⟩:=h2
 subst e
 have stat:∀{H':Hp},(∀b∈fp,H' b=none)→∀b∈fp,yT X pins H' b:=fun hn b hb=>⟨hn b hb,(f2 b hb).2⟩
 refine codeAny_forLoop_any (fun n s'=>∃i σ' H',Inv X pins σ' H' s'∧tn i s'.heap∧(∀b∈fp,H' b=none)∧W i n σ' H') ?_ m0 ⟨0,σ,H2,I2,st2,fun b hb=>(f2 b hb).1,w0⟩
 rintro n s3 ⟨i,σ3,H3,I3,st3,fr3,w3⟩
 rcases turn i n σ3 H3 w3 with ⟨stop,qn⟩ | ⟨go,N,hN,step⟩
 ·refine wpAny_passesOwn hp (jO (T.done X rfl rfl rfl hc i pins s3 σ3 H3 X.xe I3 (stat fr3) st3 stop) fun r s4 ⟨hr,I4⟩=>?_)
  subst hr
  exact wpAny_execs_nil ⟨σ3,H3,I4,qn⟩
 ·refine wpAny_passesOwn hp (jO (T.item X rfl rfl rfl hc i pins s3 σ3 H3 X.xe I3 (stat fr3) st3 go) fun r s4 ⟨u,hr,h4⟩=>?_)
  subst hr
  refine wpAny_passesOwn hp (jO h4 fun _ s5 ⟨x,H5,I5,r5,y5,st5,fr5⟩=>?_)
  have I5':=I5.pinned (stat fr5) (T.obj _ _ st5)
  refine wpAny_passesOwn hp (jO (hg _ s5 σ3 H5 x u _ I5' r5 (step x H5 y5)) fun _ s6 ⟨σ6,H6,I6,q6⟩=>?_)
  refine wpAny_passesOwn hp (jO (hb _ s6 σ6 H6 _ I6 q6) fun f s7 q7=>?_)
  have again:∀{σ7:St} {H7:Hp},Inv X (pins ++ dX fp s5.heap) σ7 H7 s7→N σ7 H7→∃m,m < n∧∃i σ' H',Inv X pins σ' H' s7∧tn i s7.heap∧(∀b∈fp,H' b=none)∧W i m σ' H':=fun {σ7 H7} I7 n7=>by
   obtain⟨m',hm,w7⟩:=hN σ7 H7 n7
   refine⟨m',hm,i + 1,σ7,H7,I7.kX,T.keep _ _ _ st5 fun b hb o e=>(I7.pin (b,o) (List.mem_append_right _ (List.mem_append_right _ (va hb e)))).1,fun b hb=>?_,w7⟩
   obtain⟨o,e,d⟩:=T.obj _ _ st5 b hb
   exact(I7.pin (b,o) (List.mem_append_right _ (List.mem_append_right _ (va hb e)))).2.1
  cases f with
  | next=>obtain⟨σ7,H7,I7,n7⟩:=q7;exact again I7 n7
  | cont=>obtain⟨σ7,H7,I7,n7⟩:=q7;exact again I7 n7
  | brk=>obtain⟨σ7,H7,I7,q7⟩:=q7;exact⟨σ7,H7,I7.kX,q7⟩
  | ret v=>obtain⟨x7,σ7,H7,I7,r7,q7⟩:=q7;exact⟨x7,σ7,H7,I7.kX,r7,q7⟩
end
theorem yd {K:PySem.W.Frag} {a:Addr} {xs:List V} {g:TG} {tb:TS} {D:Ends} {σ:St} {H:Hp} (Pv:Nat→St→Hp→Prop) (h0:Pv 0 σ H) (hl:∀i σ H,i≤xs.length→Pv i σ H→qM K H a xs)
  (hs:∀i x σ H,xs[i]?=some x→Pv i σ H→g x σ H fun σ2 H2=>tb { D with nx:=Pv (i + 1),ct:=Pv (i + 1),bk:=D.nx } σ2 H2) (hd:∀σ H,Pv xs.length σ H→D.nx σ H) :
  ∃W:Nat→Nat→St→Hp→Prop,(∃m,W 0 m σ H)∧∀i m σ H,W i m σ H→
   ((Y1 K a).stop i H∧D.nx σ H)∨((Y1 K a).go i H∧∃N:St→Hp→Prop,(∀σ' H',N σ' H'→∃m',m' < m∧W (i + 1) m' σ' H')∧∀x H',(Y1 K a).WZ i H x H'→g x σ H' fun σ2 H2=>tb { D with nx:=N,ct:=N,bk:=D.nx } σ2 H2):=by
 refine⟨fun i m σ H=>m=xs.length - i∧i≤xs.length∧Pv i σ H,⟨xs.length,by simp,Nat.zero_le _,h0⟩,?_⟩
 rintro i m σ H ⟨rfl,hi,p⟩
 have q:=hl i σ H hi p
 by_cases hlt:i < xs.length
 ·refine .inr ⟨⟨xs,xs[i],q,by simp [hlt]⟩,Pv (i + 1),fun σ' H' p'=>⟨xs.length - (i + 1),by omega,rfl,hlt,p'⟩,fun x H' y=>?_⟩
  obtain⟨e,y⟩:=y
  subst e
  exact hs i x σ _ (y xs q) p
 ·have e:i=xs.length:=by omega
  subst e
  exact .inl ⟨⟨xs,q,Nat.le_refl _⟩,hd σ H p⟩
theorem yR {lo:Int} {n:Nat} {g:TG} {tb:TS} {D:Ends} {σ:St} {H:Hp} (Pv:Nat→St→Hp→Prop) (h0:Pv 0 σ H)
  (hs:∀i σ H,i < n→Pv i σ H→g (.int (lo + i)) σ H fun σ2 H2=>tb { D with nx:=Pv (i + 1),ct:=Pv (i + 1),bk:=D.nx } σ2 H2) (hd:∀σ H,Pv n σ H→D.nx σ H) :
  ∃W:Nat→Nat→St→Hp→Prop,(∃m,W 0 m σ H)∧∀i m σ H,W i m σ H→
   ((VU lo n).stop i H∧D.nx σ H)∨((VU lo n).go i H∧∃N:St→Hp→Prop,(∀σ' H',N σ' H'→∃m',m' < m∧W (i + 1) m' σ' H')∧∀x H',(VU lo n).WZ i H x H'→g x σ H' fun σ2 H2=>tb { D with nx:=N,ct:=N,bk:=D.nx } σ2 H2):=by
 refine⟨fun i m σ H=>m=n - i∧i≤n∧Pv i σ H,⟨n,by simp,Nat.zero_le _,h0⟩,?_⟩
 rintro i m σ H ⟨rfl,hi,p⟩
 by_cases hlt:i < n
 ·refine .inr ⟨hlt,Pv (i + 1),fun σ' H' p'=>⟨n - (i + 1),by omega,rfl,hlt,p'⟩,fun x H' y=>?_⟩
  obtain⟨e,y⟩:=y
  subst e y
  exact hs i σ _ hlt p
 ·have e:i=n:=by omega
  subst e
  exact .inl ⟨Nat.le_refl _,hd σ H p⟩
end L2
namespace L2
open PySem PySem.Spec PyProof.Rows
noncomputable abbrev R2:=V→V→Hp→VK→Prop
noncomputable def dw (X:Cx) (f:Value→Value→Sem Value) (r:R2):Prop:=
 ∀(pins:List (Addr × Obj)) (s:Shared) (σ:St) (H:Hp) (x y:V) (v u:Value) (Q:VK),Inv X pins σ H s→RelV x v→RelV y u→r x y H Q→
  wpAny (model X.prog X.w) X.A (f v u) (EP X pins σ Q) X.xe s
noncomputable def HI (X:Cx) (f:Value→Sem Value) (r:V→Hp→VK→Prop):Prop:=
 ∀(pins:List (Addr × Obj)) (s:Shared) (σ:St) (H:Hp) (x:V) (v:Value) (Q:VK),Inv X pins σ H s→RelV x v→r x H Q→
  wpAny (model X.prog X.w) X.A (f v) (EP X pins σ Q) X.xe s
noncomputable def vQ (X:Cx) (f:Value) (r:List V→Hp→VK→Prop):Prop:=
 ∀(pins:List (Addr × Obj)) (s:Shared) (σ:St) (H:Hp) (xs:List V) (us:List Value) (Q:VK),Inv X pins σ H s→Vals xs us→r xs H Q→
  wpAny (model X.prog X.w) X.A (call f us) (EP X pins σ Q) X.xe s
noncomputable def P0 (X:Cx) (r:V→Hp→(Bool→Hp→Prop)→Prop):Prop:=
 ∀(pins:List (Addr × Obj)) (s:Shared) (σ:St) (H:Hp) (x:V) (v:Value) (Q:Bool→Hp→Prop),Inv X pins σ H s→RelV x v→r x H Q→
  wpAny (model X.prog X.w) X.A (truthy v) (TP X pins σ Q) X.xe s
noncomputable def HP (r:R2) (ta tb:TE):TE:=fun σ H Q=>ta σ H fun x H1=>tb σ H1 fun y H2=>r x y H2 Q
noncomputable def FF (r:V→Hp→VK→Prop) (ta:TE):TE:=fun σ H Q=>ta σ H fun x H1=>r x H1 Q
noncomputable def rI (C:Int→Int→Prop) (g:Int→Int→V):R2:=fun x y H Q=>∃i j,x=.int i∧y=.int j∧C i j∧Q (g i j) H
noncomputable def Yn (g:Int→Int→V):R2:=fun x y H Q=>∃i j,x=.int i∧y=.int j∧Q (g i j) H
noncomputable def rU (g:Int→V):V→Hp→VK→Prop:=fun x H Q=>∃i,x=.int i∧Q (g i) H
section
variable {X:Cx} {a b c:Expr} {ta tb tc:TE} {pos:Pos}
theorem WW (ha:PE X a ta) (hb:PE X b tb) {pins:List (Addr × Obj)} {s:Shared} {σ:St} {H:Hp} {R:V→V→Hp→Prop} (I:Inv X pins σ H s)
  (h:ta σ H fun x H1=>tb σ H1 fun y H2=>R x y H2) {Q:Value→Shared→Prop} {f:Value→Value→Sem Value}
  (hf:∀v u s2 x y H2,Inv X pins σ H2 s2→RelV x v→RelV y u→R x y H2→wpAny (model X.prog X.w) X.A (f v u) Q X.xe s2) :
  wpAny (model X.prog X.w) X.A (eval a X.env) (fun v s₁=>wpAny (model X.prog X.w) X.A (eval b X.env) (fun u s₂=>wpAny (model X.prog X.w) X.A (f v u) Q X.xe s₂) X.xe s₁) X.xe s:=by
 refine jO (ha pins s σ H _ I h) fun v s1 ⟨x,H1,I1,r1,q1⟩=>?_
 refine jO (hb pins s1 σ H1 _ I1 q1) fun u s2 ⟨y,H2,I2,r2,q2⟩=>?_
 exact hf v u s2 x y H2 I2 r1 r2 q2
theorem qg {op:Operator} {r:R2} (ho:dw X (binaryOp op) r) (ha:PE X a ta) (hb:PE X b tb):PE X (.BinOp a op b pos) (HP r ta tb):=by
 intro pins s σ H Q I h
 exact wpAny_BinOp (WW ha hb I h fun v u s2 x y H2 I2 rx ry q=>ho pins s2 σ H2 x y v u Q I2 rx ry q)
theorem GD {op:UnaryOp} {r:V→Hp→VK→Prop} (ho:HI X (unaryOp op) r) (ha:PE X a ta):PE X (.UnaryOp op a pos) (FF r ta):=by
 intro pins s σ H Q I h
 exact UnaryOp_ (jO (ha pins s σ H _ I h) fun v s1 ⟨x,H1,I1,r1,q1⟩=>ho pins s1 σ H1 x v Q I1 r1 q1)
theorem Bu {f:Value→Value→Sem Value} {C:Int→Int→Prop} {g:Int→Int→Int}
  (rule:∀(i j:Int) (t u:Tok) (s:Shared) (Q:Value→Shared→Prop) (E:Value→Shared→Prop),C i j→Q (.int (g i j) s.toks) { s with toks:=s.toks + 1 }→wpAny (model X.prog X.w) X.A (f (.int i t) (.int j u)) Q E s) :
  dw X f (rI C fun i j=>.int (g i j)):=by
 intro pins s σ H x y v u Q I rx ry h
 obtain⟨i,j,rfl,rfl,hc,q⟩:=h
 obtain⟨t,rfl⟩:=rx
 obtain⟨t',rfl⟩:=ry
 exact rule i j t t' s _ _ hc ⟨.int (g i j),H,I.tok _,⟨_,rfl⟩,q⟩
theorem GP {f:Value→Value→Sem Value} {g:Int→Int→Int}
  (rule:∀(i j:Int) (t u:Tok) (s:Shared) (Q:Value→Shared→Prop) (E:Value→Shared→Prop),Q (.int (g i j) s.toks) { s with toks:=s.toks + 1 }→wpAny (model X.prog X.w) X.A (f (.int i t) (.int j u)) Q E s) :
  dw X f (Yn fun i j=>.int (g i j)):=by
 intro pins s σ H x y v u Q I rx ry h
 obtain⟨i,j,rfl,rfl,q⟩:=h
 obtain⟨t,rfl⟩:=rx
 obtain⟨t',rfl⟩:=ry
 exact rule i j t t' s _ _ ⟨.int (g i j),H,I.tok _,⟨_,rfl⟩,q⟩
theorem Yy {f:Value→Value→Sem Value} {g:Int→Int→Bool}
  (rule:∀(i j:Int) (t u:Tok) (s:Shared) (Q:Value→Shared→Prop) (E:Value→Shared→Prop),Q (.bool (g i j)) s→wpAny (model X.prog X.w) X.A (f (.int i t) (.int j u)) Q E s) :
  dw X f (Yn fun i j=>.bl (g i j)):=by
 intro pins s σ H x y v u Q I rx ry h
 obtain⟨i,j,rfl,rfl,q⟩:=h
 obtain⟨t,rfl⟩:=rx
 obtain⟨t',rfl⟩:=ry
 exact rule i j t t' s _ _ ⟨.bl (g i j),H,I,rfl,q⟩
noncomputable def HM (i j:Int):Prop:=0 < j∧j < 1073741824
noncomputable def B3 (i j:Int):Prop:=j≠0∧j.natAbs < 1073741824
noncomputable def PB (i j:Int):Prop:=0≤j∧j≤1000000∧i.natAbs < 2 ^ 64
noncomputable def WQ (i j:Int):Prop:=(-(2 ^ 64) < i∧i < 2 ^ 64)∨(-(2 ^ 64) < j∧j < 2 ^ 64)
theorem WQ.ok {i j:Int} (h:WQ i j):IntMulOk i j:=by
 rcases h with ⟨h1,h2⟩ | ⟨h1,h2⟩
 ·exact .of_left (intBits_le_64 h1 h2)
 ·exact .of_right (intBits_le_64 h1 h2)
theorem jI:dw X (binaryOp .Add) (Yn fun i j=>.int (i + j)):=GP fun _ _ _ _ _ _ _ q=>add_int q
theorem oX:dw X (binaryOp .Sub) (Yn fun i j=>.int (i - j)):=GP fun _ _ _ _ _ _ _ q=>sub_int q
theorem wo:dw X (binaryOp .Mult) (rI WQ fun i j=>.int (i * j)):=Bu fun _ _ _ _ _ _ _ hc q=>mul_int q hc.ok
theorem xg:dw X (binaryOp .FloorDiv) (rI HM fun i j=>.int (i / j)):=Bu fun i j _ _ _ _ _ hc q=>by
 have h1:(0:Int) < j:=hc.1
 have h2:j < 1073741824:=hc.2
 exact floordiv_int (by omega) (by rw[Int.fdiv_eq_ediv_of_nonneg i (by omega)];exact q) (.inl (PyProof.noPylong_small (by omega)))
theorem qU:dw X (binaryOp .Mod) (rI (fun _ j=>0 < j) fun i j=>.int (i % j)):=Bu fun i j _ _ _ _ _ hc q=>by
 have h1:(0:Int) < j:=hc
 exact mod_int' (by omega) (by rw[Int.fmod_eq_emod_of_nonneg i (by omega)];exact q)
theorem FD {f:Value→Sem Value} {g:Int→Int}
  (rule:∀(i:Int) (t:Tok) (s:Shared) (Q:Value→Shared→Prop) (E:Value→Shared→Prop),Q (.int (g i) s.toks) { s with toks:=s.toks + 1 }→wpAny (model X.prog X.w) X.A (f (.int i t)) Q E s) :
  HI X f (rU fun i=>.int (g i)):=by
 intro pins s σ H x v Q I rx h
 obtain⟨i,rfl,q⟩:=h
 obtain⟨t,rfl⟩:=rx
 exact rule i t s _ _ ⟨.int (g i),H,I.tok _,⟨_,rfl⟩,q⟩
theorem YT:HI X (unaryOp .USub) (rU fun i=>.int (-i)):=FD fun _ _ _ _ _ q=>neg_int q
end
noncomputable def G8:V→V→Bool
 | .non,.non=>true | .non,.int _=>true | .int _,.non=>true | .non,.bl _=>true | .bl _,.non=>true | .non,.str _=>true | .str _,.non=>true
 | .int _,.int _=>true | .bl _,.bl _=>true | .str _,.str _=>true | .byt _,.byt _=>true
 | .int _,.str _=>true | .str _,.int _=>true | .bl _,.str _=>true | .str _,.bl _=>true
 | _,_=>false
noncomputable def Fp:R2:=fun x y H Q=>G8 x y=true∧Q (.bl (decide (x=y))) H
noncomputable def Fd:R2:=fun x y H Q=>G8 x y=true∧Q (.bl (!decide (x=y))) H
theorem Zt {i j:Int}:decide (V.int i=V.int j)=(i == j):=by
 rw[Bool.eq_iff_iff]
 simp
theorem Jn {i j:Bool}:decide (V.bl i=V.bl j)=(i == j):=by
 rw[Bool.eq_iff_iff]
 simp
theorem Zn {i j:Str}:decide (V.str i=V.str j)=(i == j):=by
 rw[Bool.eq_iff_iff]
 simp
theorem Zs {i j:Array UInt8}:decide (V.byt i=V.byt j)=(i.toList == j.toList):=by
 rw[Bool.eq_iff_iff]
 cases i
 cases j
 simp
section
variable {X:Cx} {a b c:Expr} {ta tb tc:TE} {pos:Pos}
theorem jq {pins:List (Addr × Obj)} {σ:St} {H:Hp} {s:Shared} {Q:VK} {k k':Bool} (I:Inv X pins σ H s) (q:Q (.bl k) H) (e:k=k'):EP X pins σ Q (.bool k') s:=by
 subst e
 exact⟨.bl k,H,I,rfl,q⟩
theorem xj:dw X (compareOp .Eq) Fp:=by
 intro pins s σ H x y v u Q I rx ry h
 obtain⟨hs,q⟩:=h
 cases x with
 | non=>
  cases rx
  cases y with
  | non=>cases ry;exact PySem.EqNone.eq_none_none (jq I q (by simp))
  | bl j=>cases ry;exact PySem.EqNone.eq_none_bool (jq I q (by simp))
  | int j=>obtain⟨t',rfl⟩:=ry;exact PySem.EqNone.eq_none_int (jq I q (by simp))
  | str j=>obtain⟨t',rfl⟩:=ry;exact PySem.EqNone.eq_none_str (jq I q (by simp))
  | _=>exact absurd (show false=true from hs) Bool.false_ne_true
 | bl i=>
  cases rx
  cases y with
  | non=>cases ry;exact PySem.EqNone.eq_bool_none (jq I q (by simp))
  | bl j=>cases ry;exact eq_bool (jq I q Jn)
  | str j=>obtain⟨t',rfl⟩:=ry;exact PySem.EqMixed.eq_bool_str (jq I q (by simp))
  | _=>exact absurd (show false=true from hs) Bool.false_ne_true
 | int i=>
  obtain⟨t,rfl⟩:=rx
  cases y with
  | non=>cases ry;exact PySem.EqNone.eq_int_none (jq I q (by simp))
  | int j=>obtain⟨t',rfl⟩:=ry;exact eq_int (jq I q Zt)
  | str j=>obtain⟨t',rfl⟩:=ry;exact PySem.EqMixed.eq_int_str (jq I q (by simp))
  | _=>exact absurd (show false=true from hs) Bool.false_ne_true
 | str i=>
  obtain⟨t,rfl⟩:=rx
  cases y with
  | non=>cases ry;exact PySem.EqNone.eq_str_none (jq I q (by simp))
  | bl j=>cases ry;exact PySem.EqMixed.eq_str_bool (jq I q (by simp))
  | int j=>obtain⟨t',rfl⟩:=ry;exact PySem.EqMixed.eq_str_int (jq I q (by simp))
  | str j=>obtain⟨t',rfl⟩:=ry;exact eq_str (jq I q Zn)
  | _=>exact absurd (show false=true from hs) Bool.false_ne_true
 | byt i=>
  obtain⟨t,rfl⟩:=rx
  cases y with
  | byt j=>obtain⟨t',rfl⟩:=ry;exact PySem.W.eq_bytes (jq I q Zs)
  | _=>exact absurd (show false=true from hs) Bool.false_ne_true
 | _=>cases y<;>exact absurd (show false=true from hs) Bool.false_ne_true
theorem ZI:dw X (compareOp .NotEq) Fd:=by
 intro pins s σ H x y v u Q I rx ry h
 obtain⟨hs,q⟩:=h
 cases x with
 | non=>
  cases rx
  cases y with
  | non=>cases ry;exact PySem.EqNone.ne_none_none (jq I q (by simp))
  | bl j=>cases ry;exact PySem.EqNone.ne_none_bool (jq I q (by simp))
  | int j=>obtain⟨t',rfl⟩:=ry;exact PySem.EqNone.ne_none_int (jq I q (by simp))
  | str j=>obtain⟨t',rfl⟩:=ry;exact PySem.EqNone.ne_none_str (jq I q (by simp))
  | _=>exact absurd (show false=true from hs) Bool.false_ne_true
 | bl i=>
  cases rx
  cases y with
  | non=>cases ry;exact PySem.EqNone.ne_bool_none (jq I q (by simp))
  | bl j=>cases ry;exact ne_bool (jq I q (congrArg not Jn))
  | str j=>obtain⟨t',rfl⟩:=ry;exact PySem.EqMixed.ne_bool_str (jq I q (by simp))
  | _=>exact absurd (show false=true from hs) Bool.false_ne_true
 | int i=>
  obtain⟨t,rfl⟩:=rx
  cases y with
  | non=>cases ry;exact PySem.EqNone.ne_int_none (jq I q (by simp))
  | int j=>obtain⟨t',rfl⟩:=ry;exact ne_int (jq I q (congrArg not Zt))
  | str j=>obtain⟨t',rfl⟩:=ry;exact PySem.EqMixed.ne_int_str (jq I q (by simp))
  | _=>exact absurd (show false=true from hs) Bool.false_ne_true
 | str i=>
  obtain⟨t,rfl⟩:=rx
  cases y with
  | non=>cases ry;exact PySem.EqNone.ne_str_none (jq I q (by simp))
  | bl j=>cases ry;exact PySem.EqMixed.ne_str_bool (jq I q (by simp))
  | int j=>obtain⟨t',rfl⟩:=ry;exact PySem.EqMixed.ne_str_int (jq I q (by simp))
  | str j=>obtain⟨t',rfl⟩:=ry;exact ne_str (jq I q (congrArg not Zn))
  | _=>exact absurd (show false=true from hs) Bool.false_ne_true
 | byt i=>
  obtain⟨t,rfl⟩:=rx
  cases y with
  | byt j=>obtain⟨t',rfl⟩:=ry;exact PySem.W.ne_bytes (jq I q (congrArg not Zs))
  | _=>exact absurd (show false=true from hs) Bool.false_ne_true
 | _=>cases y<;>exact absurd (show false=true from hs) Bool.false_ne_true
theorem ZO:dw X (compareOp .Lt) (Yn fun i j=>.bl (decide (i < j))):=Yy fun _ _ _ _ _ _ _ q=>lt_int q
theorem V7:dw X (compareOp .LtE) (Yn fun i j=>.bl (decide (i≤j))):=Yy fun _ _ _ _ _ _ _ q=>le_int q
theorem tI:dw X (compareOp .Gt) (Yn fun i j=>.bl (decide (j < i))):=Yy fun _ _ _ _ _ _ _ q=>gt_int q
theorem QM:dw X (compareOp .In) (fun x y H Q=>∃i j,x=.str i∧y=.str j∧Q (.bl (!(Builtin.Str.occurrences j i 0 j.length 1).isEmpty)) H):=by
 intro pins s σ H x y v u Q I rx ry h
 obtain⟨i,j,rfl,rfl,q⟩:=h
 obtain⟨t,rfl⟩:=rx
 obtain⟨t',rfl⟩:=ry
 exact in_str (jq I q rfl)
theorem Xf:dw X (compareOp .Is) (fun x y H Q=>y=.non∧Q (.bl (decide (x=.non))) H):=by
 intro pins s σ H x y v u Q I rx ry h
 obtain⟨rfl,q⟩:=h
 cases ry
 refine is_none_gen (jq I q ?_)
 cases x<;>first
  | (cases rx;rfl)
  | (obtain⟨t,rfl⟩:=rx;rfl)
theorem ZE:dw X (compareOp .IsNot) (fun x y H Q=>y=.non∧Q (.bl (!decide (x=.non))) H):=by
 intro pins s σ H x y v u Q I rx ry h
 obtain⟨rfl,q⟩:=h
 cases ry
 refine isnot_none_gen (jq I q ?_)
 cases x<;>first
  | (cases rx;rfl)
  | (obtain⟨t,rfl⟩:=rx;rfl)
noncomputable def isObj:HO→Bool
 | .lst _=>true
 | .ins _ _ _=>true
 | _=>false
theorem qV (b:Expr) {op:CmpOp} (h:op≠.In:=by decide) (h2:op≠.NotIn:=by decide):behindInMarks op b=false:=by
 have e1:(op == CmpOp.In)=false:=by cases op<;>first | rfl | exact absurd rfl h
 have e2:(op == CmpOp.NotIn)=false:=by cases op<;>first | rfl | exact absurd rfl h2
 cases b<;>simp [behindInMarks,e1,e2]
theorem gT {op:CmpOp} {r:R2} (ho:dw X (compareOp op) r) (ha:PE X a ta) (hb:PE X b tb) (hm:behindInMarks op b=false):PE X (.Compare a [op] [b] pos) (HP r ta tb):=by
 intro pins s σ H Q I h
 exact wpAny_Compare1 (WW ha hb I h fun v u s2 x y H2 I2 rx ry q=>ho pins s2 σ H2 x y v u Q I2 rx ry q) hm
noncomputable def Hl (t:TE):TT:=fun σ H Q=>t σ H fun x H'=>∃k,x=.bl k∧Q k H'
theorem qt {op:CmpOp} {r:R2} (ho:dw X (compareOp op) r) (ha:PE X a ta) (hb:PE X b tb) (hm:behindInMarks op b=false):PT X (.Compare a [op] [b] pos) (Hl (HP r ta tb)):=by
 intro pins s σ H Q I h
 refine wpAny_isTrue_Compare1 (jO (ha pins s σ H _ I h) fun v s1 ⟨x,H1,I1,r1,q1⟩=>jO (hb pins s1 σ H1 _ I1 q1) fun u s2 ⟨y,H2,I2,r2,q2⟩=>
  jO (ho pins s2 σ H2 x y v u _ I2 r1 r2 q2) fun c s3 ⟨z,H3,I3,r3,k,e,q3⟩=>?_) hm
 subst e
 cases r3
 exact wpAny_truthy_bool ⟨H3,I3,q3⟩
noncomputable def YB (r r':R2) (ta tb tc:TE):TE:=fun σ H Q=>ta σ H fun x H1=>tb σ H1 fun y H2=>r x y H2 fun z H3=>∃k,z=.bl k∧
 (if k=true then tc σ H3 fun w' H4=>r' y w' H4 Q else Q (.bl false) H3)
theorem Xc {op op':CmpOp} {r r':R2} (ho:dw X (compareOp op) r) (ho':dw X (compareOp op') r') (ha:PE X a ta) (hb:PE X b tb) (hc:PE X c tc)
  (hm:lastMarks [op,op'] [b,c]=false:=by with_unfolding_all rfl):PE X (.Compare a [op,op'] [b,c] pos) (YB r r' ta tb tc):=by
 intro pins s σ H Q I h
 refine Compare_chain (jO (ha pins s σ H _ I h) fun v s1 ⟨x,H1,I1,r1,q1⟩=>chain_link (jO (hb pins s1 σ H1 _ I1 q1) fun u s2 ⟨y,H2,I2,r2,q2⟩=>
  jO (ho pins s2 σ H2 x y v u _ I2 r1 r2 q2) fun d s3 ⟨z,H3,I3,r3,k,e,q3⟩=>?_)) hm
 subst e
 cases r3
 refine wpAny_truthy_bool ?_
 cases k with
 | false=>exact ite_ff ⟨.bl false,H3,I3,rfl,q3⟩
 | true=>exact ite_tt (chain_last (jO (hc pins s3 σ H3 _ I3 q3) fun w' s4 ⟨z',H4,I4,r4,q4⟩=>ho' pins s4 σ H4 y z' u w' Q I4 r2 r4 q4))
noncomputable def P4 (K:PySem.W.Frag) (x:V) (H:Hp) (k:Bool):Prop:=
 match x with
 | .non=>k=false
 | .bl b=>k=b
 | .int i=>k=(i != 0)
 | .str y=>y.length≤sizeLine∧k=((y.length:Int) != 0)
 | .byt y=>y.size≤sizeLine∧k=((y.size:Int) != 0)
 | .ref p=>(∃xs,qM K H p xs∧k = !xs.isEmpty)∨(∃xs,g9 K H p xs∧k = !xs.isEmpty)∨∃kvs,H p=some (.dK kvs)∧k = !kvs.isEmpty
 | _=>False
theorem um:(sizeLine:Nat) < 2 ^ 63:=by rw[sizeLine_eq];decide
theorem jZ:dw X (binaryOp .Add) (fun x y H Q=>∃i j,x=.str i∧y=.str j∧i.length + j.length≤sizeLine∧Q (.str (i ++ j)) H):=by
 intro pins s σ H x y v u Q I rx ry h
 obtain⟨i,j,rfl,rfl,hz,q⟩:=h
 obtain⟨t,rfl⟩:=rx
 obtain⟨t',rfl⟩:=ry
 exact add_str (fun t' tk=>⟨.str (i ++ j),H,I.tok _,⟨_,rfl⟩,q⟩) hz
noncomputable def Gv (b:Expr):Prop:=∀o i,subscripted b false o i=operate [o,i] (getItem o i)
theorem vals1 {x:V} {us:List Value} (r:Vals [x] us):∃u,us=[u]∧RelV x u:=by
 cases r with
 | cons r1 r2=>cases r2;exact⟨_,rfl,r1⟩
theorem vals2 {x y:V} {us:List Value} (r:Vals [x,y] us):∃u w',us=[u,w']∧RelV x u∧RelV y w':=by
 cases r with
 | cons r1 r2=>
  cases r2 with
  | cons r3 r4=>cases r4;exact⟨_,_,rfl,r1,r3⟩
noncomputable def PR (K:PySem.W.Frag) (x:V) (H:Hp) (n:Nat):Prop:=
 match x with
 | .str y=>y.length≤sizeLine∧n=y.length
 | .byt y=>y.size≤sizeLine∧n=y.size
 | .ref p=>(∃xs,qM K H p xs∧n=xs.length)∨∃xs,g9 K H p xs∧n=xs.length
 | _=>False
end
end L2
namespace L2
open PySem PySem.Spec PyProof.Rows
structure eA (h:Heap) (x dx C:Addr) (mA:Str→Option Value):Prop where
 obj:h.get? x=some (PySem.W.instObj C dx)
 ns:h.Ns1 dx mA
 ne:dx≠x
theorem ud {h:Heap} {dx:Addr} {mA:Str→Option Value} (n:h.Ns1 dx mA):∃od,h.get? dx=some od∧∀name,PySem.W.lookIn name od=some (mA name):=by
 obtain⟨o,es,ep,ho,hd,hk,_,hm⟩:=n
 refine⟨o,ho,fun name=>?_⟩
 have e:=hm name
 unfold nsFind findBy at e
 rw[←Array.find?_toList] at e
 unfold PySem.W.lookIn
 rw[hd]
 dsimp only
 split
 ·rename_i y q
  rw[q] at e
  exact congrArg some e
 ·rename_i q
  rw[q] at e
  have a:es.toList.any (·.refKey)=false:=by
   rw[List.any_eq_false]
   intro y hy
   obtain⟨z,t,hkey⟩:=hk y (Array.mem_toList_iff.mp hy)
   simp [DictEntry.refKey,hkey]
  have a':¬es.toList.any (·.refKey)=true:=by rw[a];exact Bool.false_ne_true
  rw[if_neg a']
  exact congrArg some e
theorem eA.look {h:Heap} {x dx C:Addr} {mA:Str→Option Value} (I:eA h x dx C mA):∃od,PySem.W.InstAt h x (PySem.W.instObj C dx) C (some od)∧∀name,PySem.W.lookIn name od=some (mA name):=
 let ⟨od,ho,hl⟩:=ud I.ns
 ⟨od,⟨I.obj,rfl,rfl,ho⟩,hl⟩
section
variable {prog:Program} {w:World} {A:Around} {E:Value→Shared→Prop} {s:Shared} {K:PySem.W.Frag} {x dx C f:Addr} {mA:Str→Option Value} {name:Str} {v:Value}
theorem get_map {expr:Bool} {Q:Value→Shared→Prop} (X:K.In s.heap) (I:eA s.heap x dx C mA) (hg:PySem.W.plainGet K C name=true) (hh:PySem.W.hasDictIn K C=true)
  (ha:PySem.W.findIn K (.ref C) name=some none) (hv:mA name=some v) (hv':PySem.W.handedIn v=true) (h:Q v { s with toks:=s.toks + 1 }) :
  wpAny (model prog w) A (getAttr (.ref x) name expr) Q E s:=by
 obtain⟨od,J,hl⟩:=I.look
 exact PySem.W.get_value X J (PySem.W.plainGet_of hg).1 (PySem.W.findObj_own hh ha rfl (by rw[hl,hv])) hv' h
theorem JW {pl:Sem Bool} {Q:Value × List Value→Shared→Prop} (X:K.In s.heap) (I:eA s.heap x dx C mA) (hg:PySem.W.plainGet K C name=true)
  (hf:PySem.W.findIn K (.ref C) name=some (some (.ref f))) (ht:PySem.W.isFn K (.ref f)=true) (hv:mA name=none) (h:Q (.ref f,[.ref x]) s) :
  wpAny (model prog w) A (getMethod (.ref x) name pl) Q E s:=by
 obtain⟨od,J,hl⟩:=I.look
 exact PySem.W.method_fn X J (PySem.W.plainGet_of hg).1 (PySem.W.plainGet_of hg).2 hf (beq_iff_eq.mp ht) (by show (PySem.W.lookIn name od).map (·.isSome)=some false;rw[hl,hv];rfl) h
theorem Vi {ns:List Str} {Q:Unit→Shared→Prop} (X:K.In s.heap) (I:eA s.heap x dx C mA)
  (hs:PySem.W.findIn K (.ref C) "__setattr__" = some (some (.builtin "object.__setattr__"))) (hp:PySem.W.plainOver K C=true) (ht:PySem.W.takerIn K C name=some none) (hh:PySem.W.hasDictIn K C=true)
  (hw:PySem.Within mA ns) (hsz:ns.length≤sizeLine)
  (h:∀h',eA h' x dx C (fun y=>if y=name then some v else mA y)→Heap.SameBut dx s.heap h'→Q () { s with heap:=h',toks:=s.toks + 2 }) :
  wpAny (model prog w) A (setAttr (.ref x) name v) Q E s:=by
 obtain⟨od,J,hl⟩:=I.look
 refine PySem.W.set_plain X J hs (PySem.W.osa_open (s:={ s with toks:=s.toks + 1 }) (r:=none) X J hp ht fun b=>?_)
 obtain⟨cd,hc,hd'⟩:=PySem.W.any_some hh
 have hx:s.heap.get? x=some ⟨.ref C,some dx,.plain,#[]⟩:=I.obj
 refine wpAny_bind (wpAny_pure (wpAny_bind (wpAny_bind (wpAny_loadPart hx (wpAny_bind (PySem.W.Looks.here (s:={ s with toks:=s.toks + 1 }) (PySem.W.looks_clsIn X hc) ?_))))))
 rw[hd']
 refine wpAny_pure (a:=some dx) (wpAny_bind (wpAny_pure (wpAny_bind ?_)))
 refine wpAny_nsSet1 (s:={ s with toks:=s.toks + 1 }) I.ns fun h' hn2 hs2=>?_
 obtain⟨oD,esD,epD,hoD,hdD,hcD⟩:=hn2.count (PySem.Within.cons name v hw)
 refine wpAny_bind (wpAny_lookBehind hoD (by rw[hdD];exact pastItsLine_dict (Nat.le_trans hcD (by rw[List.length_cons];omega))) ?_)
 exact wpAny_pure (h _ ⟨(hs2.2 _ (Ne.symm I.ne)).trans I.obj,hn2,I.ne⟩ hs2)
theorem JE {R:Result→Shared→Prop} {vs:List Value} {kw:List (Str × Value)} (X:K.In s.heap) (hm:PySem.W.makesIn K C=true)
  (hi:PySem.W.findIn K (.ref C) "__init__" = some (some (.ref f))) (hf:PySem.W.typeIn K (.ref f)=some (.type "function"))
  (h:codeAny (model prog w) (A.under (.builtin "type.__call__" ⟨.ref C :: vs,kw⟩)) (.call (.ref f) ⟨.ref (s.heap.objs.size + 1) :: vs,kw⟩) (PySem.W.InitBack (s.heap.objs.size + 1) R)
   { s with heap:=(s.heap.push PySem.W.emptyDict).push (PySem.W.instObj C s.heap.objs.size) }) :
  codeAny (model prog w) A (.call (.ref C) ⟨vs,kw⟩) R s:=by
 obtain⟨hh,g,d,t,os⟩:=s
 exact PySem.W.make_core (PySem.W.makes_of X hm) (PySem.W.looks_findIn X hi) (fun self=>PySem.W.bind_fn X self hf) (.inl rfl) h
end
noncomputable def qJ (f:Str) (v:V):List (Str × V)→List (Str × V)
 | []=>[(f,v)]
 | (g,x) :: r=>if g=f then (g,v) :: r else (g,x) :: qJ f v r
theorem ff (f g:Str) (v:V):∀fs:List (Str × V),(qJ f v fs).lookup g=if g=f then some v else fs.lookup g
 | []=>by
  show List.lookup g [(f,v)]=_
  by_cases h:g=f
  ·have hb:(g == f)=true:=beq_iff_eq.mpr h
   simp only[List.lookup,hb,if_pos h]
  ·have hb:(g == f)=false:=beq_eq_false_iff_ne.mpr h
   simp only[List.lookup,hb,if_neg h]
 | (k,x) :: r=>by
  have ih:=ff f g v r
  rw[show qJ f v ((k,x) :: r)=(if k=f then (k,v) :: r else (k,x) :: qJ f v r) from rfl]
  by_cases hk:k=f
  ·rw[if_pos hk]
   by_cases h:g=k
   ·have hb:(g == k)=true:=beq_iff_eq.mpr h
    simp only[List.lookup,hb,if_pos (h.trans hk)]
   ·have hb:(g == k)=false:=beq_eq_false_iff_ne.mpr h
    simp only[List.lookup,hb,if_neg (fun e:g=f=>h (e.trans hk.symm))]
  ·rw[if_neg hk]
   by_cases h:g=k
   ·have hb:(g == k)=true:=beq_iff_eq.mpr h
    simp only[List.lookup,hb,if_neg (fun e:g=f=>hk (h.symm.trans e))]
   ·have hb:(g == k)=false:=beq_eq_false_iff_ne.mpr h
    simp only[List.lookup,hb]
    exact ih
theorem bY (f:Str) (v:V):∀fs:List (Str × V),f∈(qJ f v fs).map (·.1)∧∀g,g∈fs.map (·.1)→g∈(qJ f v fs).map (·.1)
 | []=>⟨by simp [qJ],fun g h=>by simp at h⟩
 | (k,x) :: r=>by
  obtain⟨i1,i2⟩:=bY f v r
  rw[show qJ f v ((k,x) :: r)=(if k=f then (k,v) :: r else (k,x) :: qJ f v r) from rfl]
  by_cases hk:k=f
  ·rw[if_pos hk]
   subst hk
   exact⟨by simp,fun g h=>by simpa using h⟩
  ·rw[if_neg hk]
   refine⟨?_,fun g h=>?_⟩
   ·rw[List.map_cons]
    exact List.mem_cons_of_mem _ i1
   ·rw[List.map_cons] at h ⊢
    rcases List.mem_cons.mp h with e | e
    ·exact List.mem_cons.mpr (.inl e)
    ·exact List.mem_cons_of_mem _ (i2 g e)
theorem xY (f:Str) (v:V):∀fs:List (Str × V),(qJ f v fs).length≤fs.length + 1
 | []=>by simp [qJ]
 | (k,x) :: r=>by
  have ih:=xY f v r
  rw[show qJ f v ((k,x) :: r)=(if k=f then (k,v) :: r else (k,x) :: qJ f v r) from rfl]
  by_cases hk:k=f
  ·rw[if_pos hk,List.length_cons,List.length_cons];omega
  ·rw[if_neg hk,List.length_cons,List.length_cons];omega
theorem yK.some_of {v:V} {o:Option Value} (r:yK (some v) o):∃u,o=some u∧RelV v u:=by
 cases o with
 | none=>exact(show False from r).elim
 | some u=>exact⟨u,rfl,r⟩
theorem yK.none_of {o:Option Value} (r:yK none o):o=none:=by
 cases o with
 | none=>rfl
 | some u=>exact(show False from r).elim
theorem tY {v:V} {u:Value} (r:RelV v u):PySem.W.handedIn u=true:=by
 cases v with
 | non=>cases (show u=Value.none from r);rfl
 | bl b=>cases (show u=Value.bool b from r);rfl
 | int i=>obtain⟨t,e⟩:=(show ∃t,u=Value.int i t from r);cases e;rfl
 | str x=>obtain⟨t,e⟩:=(show ∃t,u=Value.str x t from r);cases e;rfl
 | byt b=>obtain⟨t,e⟩:=(show ∃t,u=Value.bytes b t from r);cases e;rfl
 | flt b=>obtain⟨t,e⟩:=(show ∃t,u=Value.float b t from r);cases e;rfl
 | ref a=>cases (show u=Value.ref a from r);rfl
 | ty n=>cases (show u=Value.type n from r);rfl
section
variable {P:Program} {w:World} {H H':Hp} {h h':Heap} {a C dx:Addr} {fs fs':List (Str × V)}
theorem rk (jj:bC P w H h) (e:H a=some (.ins C dx fs)):∃mA,eA h a dx C mA∧(∀f,yK (fs.lookup f) (mA f))∧PySem.Within mA (fs.map (·.1))∧fs.length≤1000∧H dx=some (.own a):=by
 obtain⟨d,z,ne,ob,mA,n,r,q⟩:=(show xk P w H h a (.ins C dx fs) from jj a _ e)
 exact⟨mA,⟨ob,n,ne⟩,r,q,z,d⟩
end
structure uS (K:PySem.W.Frag) (C:Addr):Prop where
 pg:PySem.W.plainGet K C Str.empty=true
 hd:PySem.W.hasDictIn K C=true
 po:PySem.W.plainOver K C=true
 sa:PySem.W.findIn K (.ref C) "__setattr__" = some (some (.builtin "object.__setattr__"))
theorem uS.get {K:PySem.W.Frag} {C:Addr} (c:uS K C) (f:Str):PySem.W.plainGet K C f=true:=c.pg
noncomputable def qo (K:PySem.W.Frag) (C:Addr) (f:Str):Prop:=PySem.W.findIn K (.ref C) f=some none
theorem qo.Hi {K:PySem.W.Frag} {C:Addr} {f:Str} (n:qo K C f):PySem.W.takerIn K C f=some none:=by
 unfold PySem.W.takerIn
 rw[show PySem.W.findIn K (.ref C) f=some none from n]
 rfl
structure PF (K:PySem.W.Frag) (C:Addr) (f:Str) (v:V) (u:Value):Prop where
 at_:PySem.W.findIn K (.ref C) f=some (some u)
 rel:RelV v u
 get:PySem.W.specialIn K u "__get__" = some none
 cp:PySem.W.copiedNames.contains f=false
structure Meth (K:PySem.W.Frag) (C:Addr) (m:Str) (f:Addr):Prop where
 at_:PySem.W.findIn K (.ref C) m=some (some (.ref f))
 fn:PySem.W.isFn K (.ref f)=true
 kp:PySem.W.keepIn K (.ref f)=true
section
variable {X:Cx} {pins:List (Addr × Obj)} {σ:St} {H:Hp} {s:Shared} {a C dx:Addr} {fs:List (Str × V)} {f:Str} {v:V} {A:Around} {E:Value→Shared→Prop}
theorem af {b:Bool} {Q:Value→Shared→Prop} (I:Inv X pins σ H s) (e:H a=some (.ins C dx fs)) (c:uS X.K C) (n:qo X.K C f) (l:fs.lookup f=some v)
  (h:∀u s',Inv X pins σ H s'→RelV v u→Q u s'):wpAny (model X.prog X.w) A (getAttr (.ref a) f b) Q E s:=by
 obtain⟨mA,O,r,_,_,_⟩:=rk I.jj e
 obtain⟨u,hu,ru⟩:=yK.some_of (v:=v) (o:=mA f) (by rw[←l];exact r f)
 exact get_map I.gJ O (c.get f) c.hd n hu (tY ru) (h u _ (I.tok _) ru)
theorem gj {m:Str} {g:Addr} {pl:Sem Bool} {Q:Value × List Value→Shared→Prop} (I:Inv X pins σ H s) (e:H a=some (.ins C dx fs)) (c:uS X.K C) (k:Meth X.K C m g) (l:fs.lookup m=none)
  (h:Q (.ref g,[.ref a]) s):wpAny (model X.prog X.w) A (getMethod (.ref a) m pl) Q E s:=by
 obtain⟨mA,O,r,_,_,_⟩:=rk I.jj e
 have hn:mA m=none:=yK.none_of (by rw[←l];exact r m)
 exact JW I.gJ O (c.get m) k.at_ k.fn hn h
theorem aN {y:V} {u:Value} {Q:Unit→Shared→Prop} (I:Inv X pins σ H s) (e:H a=some (.ins C dx fs)) (c:uS X.K C) (n:qo X.K C f) (hl:fs.length < 1000) (ry:RelV y u)
  (h:∀s',Inv X pins σ (upd H a (.ins C dx (qJ f y fs))) s'→Q () s'):wpAny (model X.prog X.w) A (setAttr (.ref a) f u) Q E s:=by
 obtain⟨mA,O,r,wi,_,ho⟩:=rk I.jj e
 have hz:(fs.map (·.1)).length≤sizeLine:=by rw[List.length_map,sizeLine_eq];omega
 refine Vi I.gJ O c.sa c.po n.Hi c.hd wi hz fun h' O' sb=>h _ ?_
 have hd:∃o,h'.get? dx=some o:=let ⟨o,_,_,e',_⟩:=O'.ns;⟨o,e'⟩
 refine I.write (x:=a) (e:=dx) (by rw[e];exact True.intro) (.inr ho) (fun b q hb z=>(sb.2 b hb).trans z) hd ?_
 refine⟨by rw[qW O.ne];exact ho,?_,O.ne,O'.obj,_,O'.ns,fun g=>?_,fun g hg=>?_⟩
 ·have:=xY f y fs;omega
 ·show yK ((qJ f y fs).lookup g) (if g=f then some u else mA g)
  rw[ff]
  by_cases q:g=f
  ·rw[if_pos q,if_pos q];exact ry
  ·rw[if_neg q,if_neg q];exact r g
 ·by_cases q:g=f
  ·rw[q];exact(bY f y fs).1
  ·refine(bY f y fs).2 g (wi g fun z=>hg ?_)
   show (if g=f then some u else mA g)=none
   rw[if_neg q];exact z
theorem Inv.made (I:Inv X pins σ H s):Inv X pins σ (upd (upd H s.heap.objs.size (.own (s.heap.objs.size + 1))) (s.heap.objs.size + 1) (.ins C s.heap.objs.size []))
  { s with heap:=(s.heap.push PySem.W.emptyDict).push (PySem.W.instObj C s.heap.objs.size) }:=by
 have e1:(s.heap.push PySem.W.emptyDict).get? s.heap.objs.size=some PySem.W.emptyDict:=Heap.get?_push_size s.heap rfl
 have e2:((s.heap.push PySem.W.emptyDict).push (PySem.W.instObj C s.heap.objs.size)).get? (s.heap.objs.size + 1)=some (PySem.W.instObj C s.heap.objs.size):=by
  have:=Heap.get?_push_size (s.heap.push PySem.W.emptyDict) (o:=PySem.W.instObj C s.heap.objs.size) rfl
  rwa [Heap.size_push] at this
 have e3:(s.heap.push PySem.W.emptyDict).Ns s.heap.objs.size (fun _=>none):=⟨PySem.W.emptyDict,#[],_,e1,rfl,(fun e he=>absurd he (by simp)),fun _=>rfl⟩
 have I1:=I.laid (a:=s.heap.objs.size) (o:=.own (s.heap.objs.size + 1)) (h':=s.heap.push PySem.W.emptyDict) (t':=s.toks) (fun b u q=>Heap.get?_push_of_some _ q) (Nat.le_refl _) ⟨_,e1⟩
 refine I1.laid (a:=s.heap.objs.size + 1) (o:=.ins C s.heap.objs.size []) (t':=s.toks) (fun b u q=>Heap.get?_push_of_some _ q) (Nat.le_of_eq (Heap.size_push _ _)) ?_
 have ne:s.heap.objs.size≠s.heap.objs.size + 1:=Nat.ne_of_lt (Nat.lt_succ_self _)
 refine⟨by rw[qW ne,qy],Nat.zero_le _,ne,e2,fun _=>none,(Heap.Ns1.of_empty e3).at fun o q=>Heap.get?_push_of_some _ q,fun _=>True.intro,fun y hy=>absurd rfl hy⟩
theorem Zf {prog:Program} {w:World} {env:Env} {e:Expr} {f:Str} {pos:Pos} {s:Shared} {Q:Value→Shared→Prop} (hb:attributeBase e f env (eval e env)=eval e env)
  (h:wpAny (model prog w) A (eval e env) (fun o s₁=>wpAny (model prog w) A (getAttr o f true) Q E s₁) E s):wpAny (model prog w) A (eval (.Attribute e f pos) env) Q E s:=
 Attribute_any_ h (by rw[arm_eval_Attribute,hb])
end
noncomputable def BD (K:PySem.W.Frag) (ta:TE) (f:Str):TE:=fun σ H Q=>ta σ H fun x H1=>∃a C dx fs v,x=.ref a∧H1 a=some (.ins C dx fs)∧uS K C∧qo K C f∧fs.lookup f=some v∧Q v H1
noncomputable def FQ (K:PySem.W.Frag) (ta:TE) (f:Str):TE:=fun σ H Q=>ta σ H fun x H1=>∃a C dx fs v u,x=.ref a∧H1 a=some (.ins C dx fs)∧uS K C∧PF K C f v u∧fs.lookup f=none∧Q v H1
noncomputable def BZ (K:PySem.W.Frag) (ta tv:TE) (f:Str):TS:=fun D σ H=>tv σ H fun y H1=>ta σ H1 fun x H2=>∃a C dx fs,x=.ref a∧H2 a=some (.ins C dx fs)∧uS K C∧qo K C f∧fs.length < 1000∧
 D.nx σ (upd H2 a (.ins C dx (qJ f y fs)))
noncomputable def PD (X:Cx) (op:Operator) (rd:V→V→Hp→VK→Prop):Prop:=
 ∀(pins:List (Addr × Obj)) (s:Shared) (σ:St) (H:Hp) (x y:V) (u v:Value) (Q:VK),Inv X pins σ H s→RelV x u→RelV y v→rd x y H Q→wpAny (model X.prog X.w) X.A (inplaceOp op u v) (EP X pins σ Q) X.xe s
noncomputable def HW (K:PySem.W.Frag) (ta tv:TE) (rd:V→V→Hp→VK→Prop) (f:Str):TS:=fun D σ H=>ta σ H fun x H1=>∃a C dx fs v,x=.ref a∧H1 a=some (.ins C dx fs)∧uS K C∧qo K C f∧fs.lookup f=some v∧
 tv σ H1 fun y H2=>rd v y H2 fun z H3=>∃dx' fs',H3 a=some (.ins C dx' fs')∧fs'.length < 1000∧D.nx σ (upd H3 a (.ins C dx' (qJ f z fs')))
section
variable {X:Cx} {o e value:Expr} {f:Str} {pos pos' tpos:Pos} {ta tv:TE}
theorem Yb (he:PE X e ta) (hb:attributeBase e f X.env (eval e X.env)=eval e X.env):PE X (.Attribute e f pos) (BD X.K ta f):=by
 intro pins s σ H Q I h
 refine Zf hb (jO (he pins s σ H _ I h) fun u s1 ⟨x,H1,I1,rx,a,C,dx,fs,v,ex,ea,c,n,l,q⟩=>?_)
 subst ex
 obtain rfl:u=Value.ref a:=rx
 exact af I1 ea c n l fun u' s2 I2 ru=>⟨v,H1,I2,ru,q⟩
theorem jE (ha:PE X o ta) (hv:PE X value tv) (hs:swapsWith value (some (.Attribute o f pos')) pos.line X.env=pure false):PS X (.Assign [.Attribute o f pos'] value pos) (BZ X.K ta tv f):=by
 intro pins s σ H D I h
 refine plainObj_wpAny_Assign_Attribute (jO (hv pins s σ H _ I h) fun u s1 ⟨y,H1,I1,ry,q⟩=>jO (ha pins s1 σ H1 _ I1 q) fun ov s2 ⟨x,H2,I2,rx,a,C,dx,fs,ex,ea,c,n,l,q2⟩=>?_) hs
 subst ex
 obtain rfl:ov=Value.ref a:=rx
 exact aN I2 ea c n l ry fun s3 I3=>⟨σ,_,I3,q2⟩
noncomputable def Fb:V→V→Hp→VK→Prop:=fun x y H Q=>∃i j,x=.int i∧y=.int j∧Q (.int (i + j)) H
noncomputable def Ft:V→V→Hp→VK→Prop:=fun x y H Q=>∃i j,x=.int i∧y=.int j∧Q (.int (i - j)) H
theorem V3 {pl:Sem Bool} {m:Str} {apos:Pos} {args:List Expr} {pins:List (Addr × Obj)} {s:Shared} {σ:St} {H:Hp} {Q:Value→Shared→Prop} {te:TE} (he:PE X e te) (I:Inv X pins σ H s)
  (h:te σ H fun x H1=>∃a C dx fs g,x=.ref a∧H1 a=some (.ins C dx fs)∧uS X.K C∧Meth X.K C m g∧fs.lookup m=none∧
   ∀s1,Inv X pins σ H1 s1→wpAny (model X.prog X.w) X.A (callWith pos (.ref g) [.ref a] (backTo pos (starEach args X.env)) (backToKw pos (keywordEach [] X.env))) Q X.xe s1)
  (ht:eval (.Call (.Attribute e m apos) args [] pos) X.env=(do
   let ov ←eval e X.env
   standAt apos.atName
   let (f,first) ←holding [ov] (getMethod ov m pl)
   callWith pos f first (backTo pos (starEach args X.env)) (backToKw pos (keywordEach [] X.env)))) :
  wpAny (model X.prog X.w) X.A (eval (.Call (.Attribute e m apos) args [] pos) X.env) Q X.xe s:=by
 refine PySem.W.methodCall_KW (pl:=pl) (jO (he pins s σ H _ I h) fun u s1 ⟨x,H1,I1,rx,a,C,dx,fs,g,ex,ea,c,k,l,q⟩=>?_) ht
 subst ex
 obtain rfl:u=Value.ref a:=rx
 exact gj I1 ea c k l (q s1 I1)
end
section
variable {X:Cx} {pins:List (Addr × Obj)} {σ:St} {H:Hp} {s:Shared} {A:Around} {E:Value→Shared→Prop} {Q:Value→Shared→Prop} {c:Value} {b:Bool}
inductive pN (K:PySem.W.Frag) (H:Hp):V→Value→Prop where
 | non:pN K H .non (.type "NoneType")
 | bl (x:Bool):pN K H (.bl x) (.type "bool")
 | int (i:Int):pN K H (.int i) (.type "int")
 | str (x:Str):pN K H (.str x) (.type "str")
 | flt (x:UInt64):pN K H (.flt x) (.type "float")
 | lst {a:Addr} {xs:List V} (e:H a=some (.lst xs)):pN K H (.ref a) (.type "list")
 | frz {a:Addr} {o:Obj} {xs:List V} (e:H a=some (.frz o (.lst xs))):pN K H (.ref a) (.type "list")
 | tup {a:Addr} {xs:List V} (e:H a=some (.tup xs)):pN K H (.ref a) (.type "tuple")
 | dK {a:Addr} {kvs:List (Key × V)} (e:H a=some (.dK kvs)):pN K H (.ref a) (.type "dict")
 | dT {a:Addr} {kvs:List (List Key × V)} (e:H a=some (.dT kvs)):pN K H (.ref a) (.type "dict")
 | ins {a C dx:Addr} {fs:List (Str × V)} (e:H a=some (.ins C dx fs)) (cl:uS K C) (ha:PySem.W.findIn K (.ref C) "__class__" = some (some (.builtin "object.__class__")))
   (hn:PySem.W.specialIn K (.builtin "object.__class__") "__get__" = some (some (.builtin "getset_descriptor.__get__"))) (HX:PySem.W.takesIn K (.builtin "object.__class__")=some true)
   (hm:PySem.W.mroIn K C (.type "object")=some true):pN K H (.ref a) (.ref C)
theorem Qe {x:V} {u t:Value} (I:Inv X pins σ H s) (rx:RelV x u) (ty:pN X.K H x t) (e:PySem.W.kitOne X.K t c=some b) (h:∀tk,Q (.bool b) { s with toks:=tk }) :
  wpAny (model X.prog X.w) A (call (.builtin "isinstance") [u,c]) Q E s:=by
 cases ty with
 | non=>cases (show u=Value.none from rx);exact PySem.W.kia_one PySem.W.kitx_none I.gJ True.intro e (fun z=>nomatch z) h
 | bl y=>cases (show u=Value.bool y from rx);exact PySem.W.kia_one PySem.W.kitx_bool I.gJ True.intro e (fun z=>nomatch z) h
 | int i=>obtain⟨t,q⟩:=(show ∃t,u=Value.int i t from rx);cases q;exact PySem.W.kia_one PySem.W.kitx_int I.gJ True.intro e (fun z=>nomatch z) h
 | str y=>obtain⟨t,q⟩:=(show ∃t,u=Value.str y t from rx);cases q;exact PySem.W.kia_one PySem.W.kitx_str I.gJ True.intro e (fun z=>nomatch z) h
 | flt y=>obtain⟨t,q⟩:=(show ∃t,u=Value.float y t from rx);cases q;exact PySem.W.kia_one PySem.W.kitx_float I.gJ True.intro e (fun z=>nomatch z) h
 | @lst a xs ea=>
  cases (show u=Value.ref a from rx)
  obtain⟨_,_,n,_,h1⟩:=(show xk X.prog X.w H s.heap a (.lst xs) from I.jj a _ ea)
  exact PySem.W.kia_one PySem.W.kitx_list I.gJ ⟨_,h1,rfl⟩ e (fun z=>nomatch z) h
 | @frz a ob xs ea=>
  cases (show u=Value.ref a from rx)
  obtain⟨_,_,_,n,_,h1⟩:=(show xk X.prog X.w H s.heap a (.frz ob (.lst xs)) from I.jj a _ ea)
  exact PySem.W.kia_one PySem.W.kitx_list I.gJ ⟨_,h1,rfl⟩ e (fun z=>nomatch z) h
 | @tup a xs ea=>
  cases (show u=Value.ref a from rx)
  obtain⟨_,_,_,p⟩:=(show xk X.prog X.w H s.heap a (.tup xs) from I.jj a _ ea)
  obtain⟨o,h1,h2,_⟩:=p
  exact PySem.W.kia_one PySem.W.kitx_tuple I.gJ ⟨o,h1,h2⟩ e (fun z=>nomatch z) h
 | @dK a kvs ea=>
  cases (show u=Value.ref a from rx)
  obtain⟨_,_,vs,_,p⟩:=(show xk X.prog X.w H s.heap a (.dK kvs) from I.jj a _ ea)
  obtain⟨o,es,ep,h1,h2,_⟩:=p
  exact PySem.W.kia_one PySem.W.kitx_dict I.gJ ⟨o,h1,h2.1⟩ e (fun z=>nomatch z) h
 | @dT a kvs ea=>
  cases (show u=Value.ref a from rx)
  obtain⟨_,_,xs,_,o,es,ep,h1,h2,_⟩:=(show xk X.prog X.w H s.heap a (.dT kvs) from I.jj a _ ea)
  exact PySem.W.kia_one PySem.W.kitx_dict I.gJ ⟨o,h1,h2.1⟩ e (fun z=>nomatch z) h
 | @ins a C dx fs ea cl ha hn HX hm=>
  cases (show u=Value.ref a from rx)
  obtain⟨mA,O,_⟩:=rk I.jj ea
  obtain⟨od,J,_⟩:=O.look
  exact PySem.W.kia_one (PySem.W.kitx_own (cl.get _) cl.hd ha hn HX hm) I.gJ J e (fun z=>nomatch z) h
end
end L2
namespace L2
open PySem PySem.Spec PyProof.Rows
structure kn (k:Nat) (A:Around):Prop where
 hd:A.handled=none
 dp:A.depth + 3 * k + 5 < recursionLimit
 un:A.units + 16 * k + 200 < cLine
theorem kn.mono {j k:Nat} {A:Around} (r:kn k A) (h:j≤k):kn j A:=⟨r.hd,by have:=r.dp;omega,by have:=r.un;omega⟩
theorem kn.deeper {k:Nat} {A:Around} (r:kn (k + 1) A) (env:Env):kn k (A.deeper env):=
 ⟨r.hd,by have:=r.dp;show A.depth + 1 + 3 * k + 5 < _;omega,by have:=r.un;show A.units + 3 + 16 * k + 200 < _;omega⟩
theorem ai {A:Around} {C:Addr} {us:List Value} {kw:List (Str × Value)}:(A.under (.builtin "type.__call__" ⟨.ref C :: us,kw⟩)).depth=A.depth + 1:=by
 first | rfl | simp [Around.under,Code.weight,Code.isCreation,Code.isGuard,Code.isCaller,Code.frames,Code.isFrame,guardIds]
theorem ae {A:Around} {C:Addr} {us:List Value} {kw:List (Str × Value)}:(A.under (.builtin "type.__call__" ⟨.ref C :: us,kw⟩)).units=A.units + 1:=by
 first | rfl | simp [Around.under,Code.cUnits,Code.frames,Code.isFrame]
theorem kn.make {k:Nat} {A:Around} (r:kn (k + 1) A) (C:Addr) (us:List Value) (kw:List (Str × Value)):kn k (A.under (.builtin "type.__call__" ⟨.ref C :: us,kw⟩)):=
 ⟨r.hd,by have:=r.dp;rw[ai];omega,by have:=r.un;rw[ae];omega⟩
theorem kn.depth {k:Nat} {A:Around} (r:kn k A):A.depth < recursionLimit:=by have:=r.dp;omega
theorem kn.units {k:Nat} {A:Around} (r:kn k A):A.units + 64 < cLine:=by have:=r.un;omega
noncomputable def YC:TA:=fun _ H Q=>Q [] H
noncomputable def Hh (ta:TE) (tr:TA):TA:=fun σ H Q=>ta σ H fun x H1=>tr σ H1 fun xs H2=>Q (x :: xs) H2
section
variable {X:Cx} {e:Expr} {es:List Expr} {te:TE} {t:TA} {pos:Pos}
theorem z8:PA X [] YC:=fun _ _ _ _ H Q I h=>Calls.spliced_nil ⟨[],H,I,.nil,h⟩
theorem z5 (ha:PE X e te) (hr:PA X es t) (hs:starEach (e :: es) X.env=(false,eval e X.env) :: starEach es X.env:=by rfl):PA X (e :: es) (Hh te t):=by
 intro pos pins s σ H Q I h
 rw[hs]
 show wpAny _ _ (spliced ((false,eval e X.env) :: backTo pos (starEach es X.env))) _ _ s
 refine Calls.spliced_cons (jO (ha pins s σ H _ I h) fun u s1 ⟨x,H1,I1,r1,q1⟩=>?_)
 exact jO (hr pos pins s1 σ H1 _ I1 q1) fun us s2 ⟨xs,H2,I2,r2,q2⟩=>⟨x :: xs,H2,I2,.cons r1 r2,q2⟩
noncomputable def BA (t:TA):TE:=fun σ H Q=>t σ H fun xs H1=>xs.length≤sizeLine∧∀p,H1 p=none→Q (.ref p) (upd H1 p (.tup xs))
noncomputable def BR (t:TA):TE:=fun σ H Q=>t σ H fun xs H1=>xs.length≤sizeLine∧∀p,H1 p=none→Q (.ref p) (upd H1 p (.lst xs))
theorem Ym {x1} (h:PA X es t):PE X (.Tuple es x1 pos) (BA t):=by
 intro pins s σ H Q I hq
 refine wpAny_Tuple_spliced (jO (h pos pins s σ H _ I hq) fun us s1 ⟨xs,H1,I1,r,z,q⟩=>⟨by rw[←r.length];exact z,?_⟩)
 have hf:H1 s1.heap.objs.size=none:=I1.jj.fresh (Nat.le_refl _)
 refine⟨.ref s1.heap.objs.size,upd H1 s1.heap.objs.size (.tup xs),I1.laid (t':=s1.toks) (fun b u e=>Heap.get?_push_of_some _ e) (Nat.le_refl _) ?_,rfl,q _ hf⟩
 exact⟨z,us,r,⟨_,Heap.get?_push_size _ rfl,rfl,_,rfl⟩⟩
theorem Yp (h:PA X es t):PE X (.List es pos) (BR t):=by
 intro pins s σ H Q I hq
 refine wpAny_List_spliced (jO (h pos pins s σ H _ I hq) fun us s1 ⟨xs,H1,I1,r,z,q⟩=>⟨by rw[←r.length];exact z,?_⟩)
 have hf:H1 s1.heap.objs.size=none:=I1.jj.fresh (Nat.le_refl _)
 refine⟨.ref s1.heap.objs.size,upd H1 s1.heap.objs.size (.lst xs),I1.laid (t':=s1.toks) (fun b u e=>Heap.get?_push_of_some _ e) (Nat.le_refl _) ?_,rfl,q _ hf⟩
 exact⟨z,us,0,r,Heap.get?_push_size _ rfl⟩
end
noncomputable abbrev Sp:=List V→Hp→VK→XK→Prop
noncomputable abbrev rY:=List Env→Hp→Shared→XK→Value→Shared→Prop
structure iu (P:Program) (w:World) (K:PySem.W.Frag) (mg:Str→Option Value) (base:Heap) (A:Around) (outer:List Env) (s:Shared) (H:Hp):Prop where
 frames:A.frames=some outer
 mod:Mod K mg base
 bs:∀b o,base.get? b=some o→s.heap.get? b=some o∧H b=none
 Qp:base.objs.size≤s.heap.objs.size
 d7:s.heap.FunFrames base outer
 KN:∀b∈nO outer,H b=none
 jj:bC P w H s.heap
 bare:AllBare s.gens
noncomputable def CE (outer:List Env) (P:Program) (w:World) (H:Hp) (s:Shared) (Q:VK) (u:Value) (s':Shared):Prop:=
 ∃v H',s'.os=s.os∧AllBare s'.gens∧Un (nO outer) [] H H' s.heap s'.heap∧bC P w H' s'.heap∧RelV v u∧Q v H'
noncomputable def CR (CX:rY) (outer:List Env) (P:Program) (w:World) (H:Hp) (s:Shared) (Q:VK) (E:XK) (r:Result) (s':Shared):Prop:=
 match r with
 | .ok (.ret u)=>CE outer P w H s Q u s'
 | .ok _=>False
 | .error e=>CX outer H s E e s'
structure qr (P:Program) (w:World) (K:PySem.W.Frag) (mg:Str→Option Value) (base:Heap) (CX:rY) (k:Nat) (f:Addr) (fd:FuncData) (ps:List Str) (sp:Sp):Prop where
 len:∀vs H Q E,sp vs H Q E→vs.length=ps.length
 run:∀(A:Around) (outer:List Env) (s:Shared) (H:Hp) (args:Args) (us:List Value) (vs:List V) (Q:VK) (E:XK),kn k A→iu P w K mg base A outer s H→BindsTo s fd args (ps.zip us)→Vals vs us→sp vs H Q E→
  codeAny (model P w) A (.call (.ref f) args) (CR CX outer P w H s Q E) s
theorem qr.mono {P:Program} {w:World} {K:PySem.W.Frag} {mg:Str→Option Value} {base:Heap} {CX:rY} {j k:Nat} {f:Addr} {fd:FuncData} {ps:List Str} {sp:Sp} (F:qr P w K mg base CX j f fd ps sp) (h:j≤k) :
  qr P w K mg base CX k f fd ps sp:=⟨F.len,fun A outer s H args us vs Q E hr=>F.run A outer s H args us vs Q E (hr.mono h)⟩
theorem iu.make {P:Program} {w:World} {K:PySem.W.Frag} {mg:Str→Option Value} {base:Heap} {A:Around} {outer:List Env} {s:Shared} {H:Hp} (e:iu P w K mg base A outer s H) (C:Addr) (us:List Value) (kw:List (Str × Value)) :
  iu P w K mg base (A.under (.builtin "type.__call__" ⟨.ref C :: us,kw⟩)) outer s H:=⟨by first | exact e.frames | (simpa [Around.under,Code.envs,Code.isFrame,pushEnvs] using e.frames),e.mod,e.bs,e.Qp,e.d7,e.KN,e.jj,e.bare⟩
section
variable {X:Cx} {pins:List (Addr × Obj)} {σ:St} {H:Hp} {s s':Shared}
theorem Inv.KD (I:Inv X pins σ H s):iu X.prog X.w X.K X.mg X.base X.A X.stack s H:=
 ⟨I.ok.frames,I.ok.mod,I.bs,Nat.le_trans I.ok.Qp I.sz,I.stack,I.mG,I.jj,I.bare⟩
theorem Inv.after {Q:VK} {u:Value} (I:Inv X pins σ H s) (h:CE X.stack X.prog X.w H s Q u s'):EP X pins σ Q u s':=by
 obtain⟨v,H',os,bare,un,jj,r,q⟩:=h
 obtain⟨hh,g,d,t,os'⟩:=s'
 obtain rfl:os'=s.os:=os
 exact⟨v,H',I.call (h':=hh) (g':=g) (d':=d) (t':=t) (ch:=[]) un jj bare (fun b z=>absurd z (by simp)),r,q⟩
end
noncomputable def X7 (sp:Sp) (dvs:List V) (E:XK) (t:TA):TE:=fun σ H Q=>t σ H fun vs H1=>sp (vs ++ dvs) H1 Q E
noncomputable def Pa (C:Addr) (m:Str) (sp:Sp) (dvs:List V) (E:XK) (ta:TE) (t:TA):TE:=fun σ H Q=>ta σ H fun x H1=>∃a dx fs,x=.ref a∧H1 a=some (.ins C dx fs)∧fs.lookup m=none∧
 t σ H1 fun vs H2=>sp (x :: (vs ++ dvs)) H2 Q E
noncomputable def Wr (C:Addr) (sp:Sp) (dvs:List V) (E:XK) (t:TA):TE:=fun σ H Q=>t σ H fun vs H1=>∀x dx,H1 x=none→H1 dx=none→dx≠x→
 sp (.ref x :: (vs ++ dvs)) (upd (upd H1 dx (.own x)) x (.ins C dx [])) (fun v H2=>v=.non∧Q (.ref x) H2) E
noncomputable def Binds (K:PySem.W.Frag) (fd:FuncData) (ps:List Str) (ds:List Value):Prop:=
 ∀(s:Shared) (us:List Value),K.In s.heap→(us ++ ds).length=ps.length→BindsTo s fd ⟨us,[]⟩ (ps.zip (us ++ ds))
theorem Binds.all {K:PySem.W.Frag} {fd:FuncData} {ps:List Str} (h:∀us:List Value,us.length=ps.length→bindArgs fd ⟨us,[]⟩=pure (ps.zip us)):Binds K fd ps []:=fun s us _ hl=>by
 rw[List.append_nil] at hl ⊢
 exact .of_eq (h us hl)
noncomputable def Passes (CX:rY) (X:Cx) (E:XK):Prop:=∀(pins:List (Addr × Obj)) (σ:St) (H:Hp) (s:Shared) (e:Value) (s':Shared),Inv X pins σ H s→CX X.stack H s E e s'→X.xe e s'
section
variable {X:Cx} {CX:rY} {k:Nat} {f C:Addr} {fd:FuncData} {ps:List Str} {sp:Sp} {dvs:List V} {ds:List Value} {E:XK} {x m:Str} {p pos apos:Pos} {e o:Expr} {es:List Expr} {ta:TE} {t:TA}
theorem lT {pins:List (Addr × Obj)} {σ:St} {H:Hp} {s:Shared} {Q:VK} {us:List Value} {vs:List V} (F:qr X.prog X.w X.K X.mg X.base CX k f fd ps sp) (hr:kn k X.A) (hb:Binds X.K fd ps ds) (hd:Vals dvs ds) (hx:Passes CX X E)
  (I:Inv X pins σ H s) (r:Vals vs us) (h:sp (vs ++ dvs) H Q E):wpAny (model X.prog X.w) X.A (call (.ref f) us) (EP X pins σ Q) X.xe s:=by
 have r2:Vals (vs ++ dvs) (us ++ ds):=r.append hd
 have hl:(us ++ ds).length=ps.length:=by rw[←r2.length];exact F.len _ _ _ _ h
 refine wpAny_call (codeAny_mono (F.run X.A X.stack s H ⟨us,[]⟩ (us ++ ds) (vs ++ dvs) Q E hr I.KD (hb s us I.gJ hl) r2 h) fun r s' hq=>?_)
 cases r with
 | error e=>exact hx pins σ H s e s' I hq
 | ok fl=>
  cases fl with
  | ret u=>exact I.after hq
  | next=>exact False.elim hq
  | brk=>exact False.elim hq
  | cont=>exact False.elim hq
theorem qi (F:qr X.prog X.w X.K X.mg X.base CX k f fd ps sp) (hr:kn k X.A) (hg:Gl X x) (hm:X.mg x=some (.ref f)) (hk:PySem.W.keepIn X.K (.ref f)=true) (hb:Binds X.K fd ps ds) (hd:Vals dvs ds) (hx:Passes CX X E)
  (ha:PA X (e :: es) t) (hdb:(x == ("__debug__" : Str))=false:=by decide) (he:starEach (e :: es) X.env=(false,eval e X.env) :: starEach es X.env:=by rfl) (hpl:(backTo pos (starEach es X.env)).any (·.1)=false:=by rfl) :
  PE X (.Call (.Name x p) (e :: es) [] pos) (X7 sp dvs E t):=by
 intro pins s σ H Q I h
 refine wpAny_Call_Name_kw (yj I hg hm ?_ hdb)
 refine PySem.W.callWith_K (h₀:=X.base) I.ok.mod.ZY hk (jO (ha pos pins s σ H _ I h) fun us s1 ⟨vs,H1,I1,r,q⟩=>⟨I1.gJ,?_⟩) he hpl
 exact lT F hr hb hd hx I1 r q
structure Mk (K:PySem.W.Frag) (C f:Addr):Prop where
 makes:PySem.W.makesIn K C=true
 init:PySem.W.findIn K (.ref C) "__init__" = some (some (.ref f))
 fn:PySem.W.isFn K (.ref f)=true
 kp:PySem.W.keepIn K (.ref C)=true
theorem eX {pins:List (Addr × Obj)} {σ:St} {H:Hp} {s:Shared} {Q:VK} {us:List Value} {vs:List V} (M:Mk X.K C f) (F:qr X.prog X.w X.K X.mg X.base CX k f fd ps sp) (hr:kn (k + 1) X.A) (hb:Binds X.K fd ps ds) (hd:Vals dvs ds)
  (hx:Passes CX X E) (I:Inv X pins σ H s) (r:Vals vs us)
  (h:∀x dx,H x=none→H dx=none→dx≠x→sp (.ref x :: (vs ++ dvs)) (upd (upd H dx (.own x)) x (.ins C dx [])) (fun v H2=>v=.non∧Q (.ref x) H2) E) :
  wpAny (model X.prog X.w) X.A (call (.ref C) us) (EP X pins σ Q) X.xe s:=by
 have hq:=h (s.heap.objs.size + 1) s.heap.objs.size (I.jj.fresh (Nat.le_succ _)) (I.jj.fresh (Nat.le_refl _)) (Nat.ne_of_lt (Nat.lt_succ_self _))
 have I2:=Inv.made (C:=C) I
 have r2:Vals (V.ref (s.heap.objs.size + 1) :: (vs ++ dvs)) (Value.ref (s.heap.objs.size + 1) :: (us ++ ds)):=.cons rfl (r.append hd)
 have hl:(Value.ref (s.heap.objs.size + 1) :: us ++ ds).length=ps.length:=by
  have e:=r2.length
  rw[F.len _ _ _ _ hq] at e
  exact e.symm
 refine wpAny_call (JE (f:=f) I.gJ M.makes M.init (beq_iff_eq.mp M.fn) (codeAny_mono (F.run _ X.stack _ _ ⟨Value.ref (s.heap.objs.size + 1) :: us,[]⟩ (Value.ref (s.heap.objs.size + 1) :: (us ++ ds)) _ _ E (hr.make C us [])
  (I2.KD.make C us []) (hb _ (Value.ref (s.heap.objs.size + 1) :: us) I2.gJ hl) r2 hq) fun r s' hq'=>?_))
 cases r with
 | error e=>exact hx pins σ _ _ e s' I2 hq'
 | ok fl=>
  cases fl with
  | ret u=>
   obtain⟨v,H',I3,rv,ev,q3⟩:=I2.after hq'
   subst ev
   exact⟨rv,⟨V.ref (s.heap.objs.size + 1),H',I3,rfl,q3⟩⟩
  | next=>exact False.elim hq'
  | brk=>exact False.elim hq'
  | cont=>exact False.elim hq'
theorem kU (M:Mk X.K C f) (F:qr X.prog X.w X.K X.mg X.base CX k f fd ps sp) (hr:kn (k + 1) X.A) (hg:Gl X x) (hm:X.mg x=some (.ref C)) (hb:Binds X.K fd ps ds) (hd:Vals dvs ds) (hx:Passes CX X E)
  (ha:PA X (e :: es) t) (hdb:(x == ("__debug__" : Str))=false:=by decide) (he:starEach (e :: es) X.env=(false,eval e X.env) :: starEach es X.env:=by rfl) (hpl:(backTo pos (starEach es X.env)).any (·.1)=false:=by rfl) :
  PE X (.Call (.Name x p) (e :: es) [] pos) (Wr C sp dvs E t):=by
 intro pins s σ H Q I h
 refine wpAny_Call_Name_kw (yj I hg hm ?_ hdb)
 refine PySem.W.callWith_K (h₀:=X.base) I.ok.mod.ZY M.kp (jO (ha pos pins s σ H _ I h) fun us s1 ⟨vs,H1,I1,r,q⟩=>⟨I1.gJ,?_⟩) he hpl
 exact eX M F hr hb hd hx I1 r q
theorem Xr (M:Mk X.K C f) (F:qr X.prog X.w X.K X.mg X.base CX k f fd ps sp) (hr:kn (k + 1) X.A) (hg:Gl X x) (hm:X.mg x=some (.ref C)) (hb:Binds X.K fd ps ds) (hd:Vals dvs ds) (hx:Passes CX X E)
  (hdb:(x == ("__debug__" : Str))=false:=by decide):PE X (.Call (.Name x p) [] [] pos) (Wr C sp dvs E YC):=by
 intro pins s σ H Q I h
 refine wpAny_Call_Name_kw (yj I hg hm ?_ hdb)
 exact PySem.W.callWith_K0 I.gJ M.kp (eX (us:=[]) M F hr hb hd hx I .nil h)
end
noncomputable def PK (X:Cx) (kws:List Keyword) (t:TA):Prop:=
 ∀(pos:Pos) (pins:List (Addr × Obj)) (s:Shared) (σ:St) (H:Hp) (Q:List V→Hp→Prop),Inv X pins σ H s→t σ H Q→wpAny (model X.prog X.w) X.A (evalAll ((backToKw pos (keywordEach kws X.env)).map (·.2))) (AP X pins σ Q) X.xe s
section
variable {X:Cx} {CX:rY} {k:Nat} {f C:Addr} {fd:FuncData} {ps ks:List Str} {sp:Sp} {E:XK} {x m:Str} {p pos apos kpos:Pos} {e o:Expr} {es:List Expr} {kws:List Keyword} {te ta:TE} {t tk:TA} {nm:Option Str}
structure HR (K:PySem.W.Frag) (fd:FuncData) (ps ks:List Str) (g:List Value→List Value→List Value) (gV:List V→List V→List V):Prop where
 to:∀(s:Shared) (us ws:List Value),K.In s.heap→(g us ws).length=ps.length→BindsTo s fd ⟨us,ks.zip ws⟩ (ps.zip (g us ws))
 rel:∀{vs:List V} {us:List Value} {zs:List V} {ws:List Value},Vals vs us→Vals zs ws→Vals (gV vs zs) (g us ws)
noncomputable def BY (sp:Sp) (gV:List V→List V→List V) (E:XK) (t tk:TA):TE:=fun σ H Q=>t σ H fun vs H1=>tk σ H1 fun zs H2=>sp (gV vs zs) H2 Q E
variable {g:List Value→List Value→List Value} {gV:List V→List V→List V}
end
structure qm (N P:List Str) (sc:Scope):Prop where
 kind:sc.kind=.function
 co:sc.isCoroutine=false
 gen:sc.isGenerator=false
 nd:N.Nodup
 pre:N.take P.length=P
 par:∀x∈P,sc.names.lookup x=some .local∨sc.names.lookup x=some .cell
 Yk:∀y∈sc.names,y.2≠.free
theorem tZ {kindOf:Str→Option NameKind} {x:Str}:∀{binds:List (Str × Value)} {m:Str→Option Value},(∀v,(x,v)∉binds)→bindL kindOf binds m x=m x
 | [],_,_=>rfl
 | (n,v) :: r,m,h=>by
  unfold bindL
  rw[tZ fun w hw=>h w (List.mem_cons_of_mem _ hw)]
  split
  ·have:x≠n:=by rintro rfl;exact h v List.mem_cons_self
   simp [this]
  ·rfl
theorem tm {kindOf:Str→Option NameKind} {x:Str}:∀{binds:List (Str × Value)} {m:Str→Option Value},(∀v,(x,v)∉binds)→bindC kindOf binds m x=m x
 | [],_,_=>rfl
 | (n,v) :: r,m,h=>by
  unfold bindC
  rw[tm fun w hw=>h w (List.mem_cons_of_mem _ hw)]
  split
  ·rfl
  ·have:x≠n:=by rintro rfl;exact h v List.mem_cons_self
   simp [this]
theorem tu {kindOf:Str→Option NameKind} {x:Str} {v:Value}:∀{P:List Str} {vs:List Value} {i:Nat} {m:Str→Option Value},P.Nodup→P[i]?=some x→vs[i]?=some v→kindOf x=some .local→
  bindL kindOf (P.zip vs) m x=some v
 | [],_,_,_,_,h,_,_=>by simp at h
 | _ :: _,[],_,_,_,_,h,_=>by simp at h
 | p :: P,w :: vs,0,m,nd,h1,h2,hk=>by
  simp at h1 h2;subst h1;subst h2
  show bindL kindOf ((p,w) :: P.zip vs) m p=_
  unfold bindL
  rw[tZ fun v hv=>(List.nodup_cons.mp nd).1 (List.of_mem_zip hv).1,if_pos hk]
  simp
 | p :: P,w :: vs,i + 1,m,nd,h1,h2,hk=>by
  show bindL kindOf ((p,w) :: P.zip vs) m x=_
  unfold bindL
  exact tu (i:=i) (List.nodup_cons.mp nd).2 (by simpa using h1) (by simpa using h2) hk
theorem tf {kindOf:Str→Option NameKind} {x:Str} {v:Value}:∀{P:List Str} {vs:List Value} {i:Nat} {m:Str→Option Value},P.Nodup→P[i]?=some x→vs[i]?=some v→kindOf x≠some .local→
  bindC kindOf (P.zip vs) m x=some v
 | [],_,_,_,_,h,_,_=>by simp at h
 | _ :: _,[],_,_,_,_,h,_=>by simp at h
 | p :: P,w :: vs,0,m,nd,h1,h2,hk=>by
  simp at h1 h2;subst h1;subst h2
  show bindC kindOf ((p,w) :: P.zip vs) m p=_
  unfold bindC
  rw[tm fun v hv=>(List.nodup_cons.mp nd).1 (List.of_mem_zip hv).1,if_neg hk]
  simp
 | p :: P,w :: vs,i + 1,m,nd,h1,h2,hk=>by
  show bindC kindOf ((p,w) :: P.zip vs) m x=_
  unfold bindC
  exact tf (i:=i) (List.nodup_cons.mp nd).2 (by simpa using h1) (by simpa using h2) hk
noncomputable def start (N:List Str) (vs:List V):St:=vs.map some ++ List.replicate (N.length - vs.length) none
noncomputable def nL (CX:rY) (P:Program) (w:World) (K:PySem.W.Frag) (mg:Str→Option Value) (base:Heap) (N:List Str) (qual:Str) (scope:Scope) (f:Addr) (cd:Value) (A:Around) (outer:List Env) (s:Shared) (H:Hp) (E:XK):Cx where
 prog:=P
 w:=w
 K:=K
 mg:=mg
 base:=base
 A:=A.deeper (envOfC qual scope s.heap.objs.size f cd)
 N:=N
 s₀:=s
 H₀:=H
 env:=envOfC qual scope s.heap.objs.size f cd
 outer:=outer
 stack:=envOfC qual scope s.heap.objs.size f cd :: outer
 ex:=[]
 calm:=true
 fn:=fun _=>true
 pn:=[]
 xe:=fun e s'=>wpAny (model P w) (A.deeper (envOfC qual scope s.heap.objs.size f cd)) (leaving (envOfC qual scope s.heap.objs.size f cd) e) (fun _ s''=>CX outer H s E e s'') (fun e' s''=>CX outer H s E e' s'') s'
theorem iX {sc:Scope} {n:Nat} {x:Str} (h:sc.names.lookup x=some .cell):∃c,(cellsFrom n sc.names []).lookup x=some c:=by
 have q:=PySem.W.cellsFrom_some sc.names n [] (.inl h)
 exact Option.isSome_iff_exists.mp q
theorem Qi {CX:rY} {P:Program} {w:World} {K:PySem.W.Frag} {mg:Str→Option Value} {base:Heap} {N ps:List Str} {qual:Str} {scope:Scope} {f:Addr} {cd:Value} {A:Around} {outer:List Env} {s s1:Shared} {H:Hp} {E:XK} {us:List Value} {vs:List V}
  (S:qm N ps scope) (hd:A.handled=none) (e0:iu P w K mg base A outer s H) (hl:vs.length=ps.length) (r:Vals vs us)
  (x:InCallC s s.heap.objs.size (bindL (envOfC qual scope s.heap.objs.size f cd).kindOf (ps.zip us) fun _=>none) (cellsFrom (s.heap.objs.size + 1) scope.names []) (bindC (envOfC qual scope s.heap.objs.size f cd).kindOf (ps.zip us) fun _=>none) s1) :
  Inv (nL CX P w K mg base N qual scope f cd A outer s H E) [] (start N vs) H s1:=by
 have hpl:ps.length≤N.length:=by have:=congrArg List.length S.pre;rw[List.length_take] at this;omega
 obtain⟨h1,tk,rfl,hk⟩:=x.done
 have noA:∀b:Addr,b∉(nL CX P w K mg base N qual scope f cd A outer s H E).ex:=fun b z=>absurd (show b∈([]:List Addr) from z) (by simp)
 refine⟨⟨e0.mod,S.kind,rfl,rfl,Nat.le_refl _,fun y z c h1 h2=>?_,fun y hy=>?_,fun y c _ h=>?_,fun _=>hd,Around.frames_deeper e0.frames,.inr ⟨rfl,rfl⟩,fun b z=>absurd z (noA b),e0.bs,e0.Qp,fun b _ _=>noA b,fun b z=>absurd z (noA b),e0.d7,e0.KN⟩,
  rfl,e0.bare,Un.kept hk,⟨_,x.toInCall.ns,fun i y v h1 h2 h3=>?_⟩,fun y c h=>⟨_,x.cell y c h⟩,e0.jj.fresh (Nat.le_refl _),fun y c h=>?_,fun p hp=>absurd (show p∈([]:List (Addr × Obj)) from hp) (by simp),e0.jj.kept hk,?_⟩
 ·exact name_of_addr x.apart (PySem.mem_of_lookup h1) (PySem.mem_of_lookup h2)
 ·have hy:scope.names.lookup y=some .cell∨scope.names.lookup y=some .free:=hy
  rcases hy with hy | hy
  ·exact iX hy
  ·exact absurd rfl (S.Yk _ (PySem.mem_of_lookup hy))
 ·exact Nat.le_of_lt (x.above y c (PySem.mem_of_lookup h))
 ·have hi:i < vs.length:=by
   unfold start at h2
   by_cases hi:i < vs.length
   ·exact hi
   ·rw[List.getElem?_append_right (by simpa using hi)] at h2
    rw[List.getElem?_replicate] at h2
    split at h2<;>cases h2
  have ha:vs[i]?=some v:=by
   unfold start at h2
   rw[List.getElem?_append_left (by simpa using hi),List.getElem?_map] at h2
   cases e:vs[i]? with
   | none=>rw[e] at h2;cases h2
   | some a=>rw[e] at h2;cases h2;rfl
  obtain⟨u,hu,rv⟩:=r.get ha
  have hp:ps[i]?=some y:=by
   rw[←S.pre,List.getElem?_take_of_lt (by omega)];exact h1
  have ndP:ps.Nodup:=by rw[←S.pre];exact S.nd.sublist (List.take_sublist _ _)
  refine⟨u,rv,?_⟩
  rcases S.par y (List.mem_of_getElem? hp) with k | k
  ·exact .inl ⟨k,tu ndP hp hu k⟩
  ·obtain⟨c,e⟩:=iX (n:=s.heap.objs.size + 1) k
   refine .inr ⟨.inl k,c,e,?_⟩
   have q:=x.cell y c e
   rw[tf ndP hp hu (by show scope.names.lookup y≠_;rw[k];decide)] at q
   exact q
 ·exact e0.jj.fresh (Nat.le_of_lt (x.above y c (PySem.mem_of_lookup h)))
 ·unfold start
  show _=N.length
  rw[List.length_append,List.length_map,List.length_replicate]
  omega
theorem VA {CX:rY} {P:Program} {w:World} {K:PySem.W.Frag} {mg:Str→Option Value} {base:Heap} {k:Nat} {f:Addr} {name qual:Str} {params:Arguments} {body:List Stmt} {scope:Scope} {dV kV doc pm cdv ct oc:Value} {an od:Option Addr}
  {osl:Array (Option Value)} {N ps:List Str} {sp:Sp} (lk:K.lookup f=some ⟨oc,od,.func (PySem.W.fnOf name qual params body scope dV kV doc pm an cdv ct),osl⟩) (hcd:PySem.W.codeIn K cdv qual=true) (S:qm N ps scope)
  (len:∀vs H Q E,sp vs H Q E→vs.length=ps.length)
  (hbody:∀(A:Around) (outer:List Env) (s:Shared) (H:Hp) (vs:List V) (Q:VK) (E:XK),kn k (A.deeper (envOfC qual scope s.heap.objs.size f cdv))→sp vs H Q E→
   ∃t,sW (nL CX P w K mg base N qual scope f cdv A outer s H E) body t∧t { nx:=fun _ H'=>Q .non H',rt:=Q } (start N vs) H) :
  qr P w K mg base CX (k + 1) f (PySem.W.fnOf name qual params body scope dV kV doc pm an cdv ct) ps sp:=by
 refine⟨len,fun A outer s H args us vs Q E hr e0 hb r hsp=>?_⟩
 have hl:=len _ _ _ _ hsp
 have KX:K.In s.heap:=e0.mod.ZY.keeps fun b o e=>(e0.bs b o e).1
 have lim:s.heap.NoLimit:=e0.mod.nolimit.keeps fun b o e=>(e0.bs b o e).1
 have hkind:∀y∈ps.zip us,scope.names.lookup y.1=some .local∨(scope.names.lookup y.1=some .cell∧((cellsFrom (s.heap.objs.size + 1) scope.names []).lookup y.1).isSome=true):=fun ⟨n,v⟩ hy=>by
  rcases S.par n (List.of_mem_zip hy).1 with q | q
  ·exact .inl q
  ·exact .inr ⟨q,PySem.W.cellsFrom_some _ _ _ (.inl q)⟩
 refine codeAny_call_function hr.depth (KX _ _ lk) rfl S.co S.gen rfl (PySem.W.codeRec_of KX hcd) (hb _ _ _ _ ?_)
 refine wpAny_newFunctionEnv_cells S.kind hkind fun env he s1 x=>?_
 subst he
 refine⟨lim.keeps x.toInCall.keep,codeAny_func ?_⟩
 obtain⟨t,ht,hq⟩:=hbody A outer s H vs Q E (hr.deeper _) hsp
 have I:Inv (nL CX P w K mg base N qual scope f cdv A outer s H E) [] (start N vs) H s1:=Qi S hr.hd e0 hl r x
 refine wpAny_mono (ht [] s1 (start N vs) H _ I hq) (fun fl s' hs=>?_) fun e s' hs=>hs
 have fin:∀{σ':St} {H':Hp} {v:V} {u:Value},Inv (nL CX P w K mg base N qual scope f cdv A outer s H E) [] σ' H' s'→RelV v u→Q v H'→CE outer P w H s Q u s':=
  fun {σ' H' v u} J rv q=>⟨v,H',J.os,J.bare,J.base,J.jj,rv,q⟩
 cases fl with
 | ret u=>
  obtain⟨v,σ',H',J,rv,q⟩:=hs
  exact fin J rv q
 | next=>
  obtain⟨σ',H',J,q⟩:=hs
  exact fin (v:=V.non) (u:=Value.none) J rfl q
 | brk=>
  obtain⟨_,_,_,q⟩:=hs
  exact False.elim q
 | cont=>
  obtain⟨_,_,_,q⟩:=hs
  exact False.elim q
end L2
namespace L2
open PySem PySem.Spec PyProof.Rows
section
variable {X:Cx} {x:Str} {p pos:Pos} {e:Expr} {es:List Expr} {t:TA} {id T:String} {r:List V→Hp→VK→Prop}
noncomputable def Pt (r:List V→Hp→VK→Prop) (t:TA):TE:=fun σ H Q=>t σ H fun vs H1=>r vs H1 Q
theorem qG (hc:vQ X (.builtin id) r) (hg:Gl X x) (hm:X.mg x=none) (hv:bootBuiltins x=some (.builtin id)) (ha:PA X (e :: es) t) (hn:x≠"__name__":=by decide) (hdb:(x == ("__debug__" : Str))=false:=by decide)
  (he:starEach (e :: es) X.env=(false,eval e X.env) :: starEach es X.env:=by rfl) (hpl:(backTo pos (starEach es X.env)).any (·.1)=false:=by rfl):PE X (.Call (.Name x p) (e :: es) [] pos) (Pt r t):=by
 intro pins s σ H Q I h
 refine wpAny_Call_Name_kw (uf I hg hm hv ?_ hn hdb)
 exact PyProof.Rows.callWith_builtin1 (jO (ha pos pins s σ H _ I h) fun us s1 ⟨vs,H1,I1,r1,q1⟩=>hc pins s1 σ H1 vs us Q I1 r1 q1) he hpl
theorem kx (hc:vQ X (.type T) r) (hg:Gl X x) (hm:X.mg x=none) (hv:bootBuiltins x=some (.type T)) (ha:PA X (e :: es) t) (hn:x≠"__name__":=by decide) (hdb:(x == ("__debug__" : Str))=false:=by decide)
  (he:starEach (e :: es) X.env=(false,eval e X.env) :: starEach es X.env:=by rfl) (hpl:(backTo pos (starEach es X.env)).any (·.1)=false:=by rfl):PE X (.Call (.Name x p) (e :: es) [] pos) (Pt r t):=by
 intro pins s σ H Q I h
 refine wpAny_Call_Name_kw (uf I hg hm hv ?_ hn hdb)
 exact PyProof.Rows.callWith_type1 (jO (ha pos pins s σ H _ I h) fun us s1 ⟨vs,H1,I1,r1,q1⟩=>hc pins s1 σ H1 vs us Q I1 r1 q1) he hpl
end
end L2
namespace HT
open PySem PyProof.Rows
noncomputable def lexLt:List Int→List Int→Bool
 | [],[]=>false
 | [],_ :: _=>true
 | _ :: _,[]=>false
 | x :: xs,y :: ys=>if x=y then lexLt xs ys else decide (x < y)
section
open PySem.SeqAt
open PySem.AutoSeq1 (wpAny_loadPart')
open PySem.MeetsSeq PySem.MeetsSeq2 PySem.MeetsSeq3
end
section
variable {prog:Program} {w:World} {A:Around} {E:Value→Shared→Prop} {s:Shared}
noncomputable def oF (n d:Nat):Option Int→Nat
 | none=>d
 | some v=>if v < 0 then (v + (n:Int)).toNat else min v.toNat n
theorem eK (n d:Nat):oF n d none=d:=rfl
theorem rQ (n d k:Nat):oF n d (some (k:Int))=min k n:=by
 show (if (k:Int) < 0 then ((k:Int) + (n:Int)).toNat else min (k:Int).toNat n)=min k n
 rw[if_neg (by omega),Int.toNat_natCast]
end
end HT
namespace L2
open PySem PySem.Spec PyProof.Rows
noncomputable abbrev TO:=St→Hp→(Option Int→Hp→Prop)→Prop
noncomputable def PO (X:Cx) (e:Option Expr) (t:TO):Prop:=
 ∀(pins:List (Addr × Obj)) (s:Shared) (σ:St) (H:Hp) (Q:Option Int→Hp→Prop),Inv X pins σ H s→t σ H Q→
  wpAny (model X.prog X.w) X.A (evalPart e X.env) (fun u s'=>∃o H',Inv X pins σ H' s'∧IsPart u o∧Q o H') X.xe s
noncomputable def VW:TO:=fun _ H Q=>Q none H
noncomputable def Hr (t:TE):TO:=fun σ H Q=>t σ H fun x H1=>∃i,x=.int i∧Q (some i) H1
section
variable {X:Cx} {e:Expr} {te:TE} {lo hi:Option Expr} {tl th:TO} {pos p2:Pos}
theorem gN:PO X none VW:=by
 intro pins s σ H Q I h
 rw[evalPart_none]
 exact wpAny_pure ⟨none,H,I,.none,h⟩
theorem xJ (h:PE X e te):PO X (some e) (Hr te):=by
 intro pins s σ H Q I hw
 rw[evalPart_some]
 refine jO (h pins s σ H _ I hw) fun u s1 ⟨x,H1,I1,r1,q1⟩=>?_
 obtain⟨i,rfl,q⟩:=q1
 obtain⟨t,rfl⟩:=r1
 exact⟨some i,H1,I1,.int i t,q⟩
noncomputable def WX (X:Cx) (r:V→Option Int→Option Int→Hp→VK→Prop):Prop:=
 ∀(pins:List (Addr × Obj)) (s:Shared) (σ:St) (H:Hp) (x:V) (v vl vu:Value) (lo hi:Option Int) (sl:Addr) (Q:VK),Inv X pins σ H s→RelV x v→s.heap.IsSliceOf sl vl vu .none→IsPart vl lo→IsPart vu hi→r x lo hi H Q→
  ∃T id,typeLookup (.type T) "__getitem__" = pure (some (.builtin id))∧s.TypeIs v T∧wpAny (model X.prog X.w) X.A (getItem v (.ref sl)) (EP X pins σ Q) X.xe s
noncomputable def FG (r:V→Option Int→Option Int→Hp→VK→Prop) (te:TE) (tl th:TO):TE:=fun σ H Q=>te σ H fun x H1=>tl σ H1 fun l H2=>th σ H2 fun u H3=>r x l u H3 Q
theorem x5 {r:V→Option Int→Option Int→Hp→VK→Prop} (hr:WX X r) (he:PE X e te) (hl:PO X lo tl) (hu:PO X hi th):PE X (.Subscript e (.Slice lo hi none p2) pos) (FG r te tl th):=by
 intro pins s σ H Q I h
 refine Subscript_ (jO (he pins s σ H _ I h) fun v s1 ⟨x,H1,I1,r1,q1⟩=>?_)
 refine wpAny_Slice (jO (hl pins s1 σ H1 _ I1 q1) fun vl s2 ⟨l,H2,I2,pl,q2⟩=>jO (hu pins s2 σ H2 _ I2 q2) fun vu s3 ⟨u,H3,I3,pu,q3⟩=>?_)
 rw[evalPart_none]
 refine wpAny_pure ?_
 have I4:Inv X pins σ H3 { s3 with heap:=s3.heap.push { cls:=.type "slice",data:=.fields #[vl,vu,.none] } }:=I3.kept (t':=s3.toks) fun b ob q=>Heap.get?_push_of_some _ q
 obtain⟨T,id,hT,ht,hg⟩:=hr pins { s3 with heap:=s3.heap.push { cls:=.type "slice",data:=.fields #[vl,vu,.none] } } σ H3 x v vl vu l u s3.heap.objs.size Q I4 r1 (Heap.IsSliceOf.new ..) pl pu q3
 show wpAny (model X.prog X.w) X.A (subscriptTail e (.Slice lo hi none p2) v (.ref s3.heap.objs.size)) (EP X pins σ Q) X.xe { s3 with heap:=s3.heap.push { cls:=.type "slice",data:=.fields #[vl,vu,.none] } }
 exact tail_any (ops:=[.ref s3.heap.objs.size,v]) ht hT hg (by with_unfolding_all rfl)
noncomputable def uv (xs:List V) (lo hi:Option Int):List V:=(xs.drop (HT.oF xs.length 0 lo)).take (HT.oF xs.length xs.length hi - HT.oF xs.length 0 lo)
theorem iP (xs:List V) (lo hi:Option Int):(uv xs lo hi).length≤xs.length:=by
 unfold uv
 rw[List.length_take,List.length_drop]
 omega
noncomputable def Fs (K:PySem.W.Frag):V→Option Int→Option Int→Hp→VK→Prop:=fun x lo hi H Q=>∃a xs,x=.ref a∧g9 K H a xs∧
 ¬(HT.oF xs.length 0 lo=0∧HT.oF xs.length xs.length hi=xs.length)∧∀p,H p=none→Q (.ref p) (upd H p (.tup (uv xs lo hi)))
noncomputable def Ff (K:PySem.W.Frag):R2:=fun x y H Q=>∃a b ns ms,x=.ref a∧y=.ref b∧g9 K H a (ns.map V.int)∧g9 K H b (ms.map V.int)∧Q (.bl (HT.lexLt ns ms)) H
noncomputable def Ph (K:PySem.W.Frag):R2:=fun x y H Q=>∃a b xs ys,x=.ref a∧y=.ref b∧g9 K H a xs∧g9 K H b ys∧xs≠[]∧xs.length + ys.length≤sizeLine∧
 (ys=[]→Q (.ref a) H)∧(ys≠[]→∀p,H p=none→Q (.ref p) (upd H p (.tup (xs ++ ys))))
end
end L2
namespace L2
open PySem PySem.Spec PyProof.Rows
noncomputable def Q7 (n:Nat) (i:Int):Option Nat:=if 0≤i then (if i < n then some i.toNat else none) else if -(n:Int)≤i then some (i + n).toNat else none
noncomputable def uj {α:Type} (xs:List α) (i:Int):Option α:=(Q7 xs.length i).bind fun j=>xs[j]?
theorem ZK {n:Nat} {i:Int} {j:Nat} (h:Q7 n i=some j):seqIndex? i n=some j∧j < n∧-(n:Int)≤i∧i < n:=by
 unfold Q7 at h
 by_cases h0:0≤i
 ·rw[if_pos h0] at h
  by_cases h1:i < n
  ·rw[if_pos h1] at h
   have e:i.toNat=j:=Option.some.inj h
   exact⟨by rw[seqIndex_of h0 h1,e],by omega,by omega,h1⟩
  ·rw[if_neg h1] at h;cases h
 ·rw[if_neg h0] at h
  by_cases h1:-(n:Int)≤i
  ·rw[if_pos h1] at h
   have e:(i + n).toNat=j:=Option.some.inj h
   exact⟨by rw[seqIndex_neg (by omega) h1,e],by omega,h1,by omega⟩
  ·rw[if_neg h1] at h;cases h
theorem nH {α:Type} {xs:List α} {i:Int} {v:α} (h:uj xs i=some v):∃j,seqIndex? i xs.length=some j∧xs[j]?=some v∧j < xs.length∧-(xs.length:Int)≤i∧i < xs.length:=by
 unfold uj at h
 cases e:Q7 xs.length i with
 | none=>rw[e] at h;cases h
 | some j=>
  rw[e] at h
  obtain⟨h1,h2,h3,h4⟩:=ZK e
  exact⟨j,h1,h,h2,h3,h4⟩
theorem mj {α:Type} {xs:List α} {j:Nat} {v:α} (h:xs[j]?=some v):uj xs (j:Int)=some v:=by
 have hj:j < xs.length:=(List.getElem?_eq_some_iff.mp h).1
 have e:Q7 xs.length (j:Int)=some j:=by
  unfold Q7
  rw[if_pos (by omega),if_pos (by omega)];simp
 unfold uj;rw[e];exact h
theorem Jy {α:Type} (xs:List α) (v:α):uj (xs ++ [v]) (-1)=some v:=by
 have hl:(xs ++ [v]).length=xs.length + 1:=by simp
 have e:Q7 (xs ++ [v]).length (-1)=some xs.length:=by
  unfold Q7
  rw[hl,if_neg (by decide),if_pos (by omega)]
  congr 1
  omega
 unfold uj
 rw[e]
 show (xs ++ [v])[xs.length]?=some v
 simp
noncomputable def Ki (b:Expr):Prop:=∀o i,subscripted b false o i=operate [o,i] (getItem o i)
noncomputable def Y2 (X:Cx) (r:R2):Prop:=
 ∀(value slice:Expr) (pins:List (Addr × Obj)) (s:Shared) (σ:St) (H:Hp) (x y:V) (v u:Value) (Q:VK),Inv X pins σ H s→RelV x v→RelV y u→r x y H Q→
  subscripted slice false v u=operate [v,u] (getItem v u)→wpAny (model X.prog X.w) X.A (subscriptTail value slice v u) (EP X pins σ Q) X.xe s
noncomputable def Qw (X:Cx) (id:String) (r:V→List V→Hp→VK→Prop):Prop:=
 ∀(pins:List (Addr × Obj)) (s:Shared) (σ:St) (H:Hp) (x:V) (xs:List V) (v:Value) (us:List Value) (Q:VK),Inv X pins σ H s→RelV x v→Vals xs us→r x xs H Q→
  wpAny (model X.prog X.w) X.A (call (.builtin id) (v :: us)) (EP X pins σ Q) X.xe s
section
variable {X:Cx} {a b:Expr} {ta tb:TE} {pos:Pos}
theorem qe {r:R2} (hr:Y2 X r) (ha:PE X a ta) (hb:PE X b tb) (hs:Ki b):PE X (.Subscript a b pos) (HP r ta tb):=by
 intro pins s σ H Q I h
 exact Subscript_ (WW ha hb I h fun v u s2 x y H2 I2 rx ry q=>hr a b pins s2 σ H2 x y v u Q I2 rx ry q (hs _ _))
noncomputable def Yo (K:PySem.W.Frag):R2:=fun x y H Q=>∃p xs i v,x=.ref p∧y=.int i∧qM K H p xs∧uj xs i=some v∧Q v H
noncomputable def Yi (K:PySem.W.Frag):R2:=fun x y H Q=>∃p xs i v,x=.ref p∧y=.int i∧g9 K H p xs∧uj xs i=some v∧Q v H
noncomputable def G1:R2:=fun x y H Q=>∃z i c,x=.str z∧y=.int i∧z.length≤sizeLine∧uj z.cps.toList i=some c∧Q (.str ⟨#[c]⟩) H
theorem KO:Y2 X (Yo X.K):=by
 intro value slice pins s σ H x y v u Q I rx ry h hs
 obtain⟨p,xs,i,z,rfl,rfl,hq,he,q⟩:=h
 cases rx
 obtain⟨t,rfl⟩:=ry
 obtain⟨its,r,pl,hz⟩:=I.list hq
 obtain⟨j,h1,h2,h3,h4,h5⟩:=nH he
 obtain⟨w,ew,rw'⟩:=r.get h2
 have hl:=r.length
 have hn:=um
 have fin:EP X pins σ Q w s:=⟨z,H,I,rw',q⟩
 by_cases h0:0≤i
 ·have hj:i.toNat=j:=by
   rw[seqIndex_of h0 h5] at h1
   exact Option.some.inj h1
  exact item_listR pl.isList h0 (by omega) (by rw[hj];simpa using ew) fin hs
 ·have hj:(i + (its.toArray.size:Int)).toNat=j:=by
   rw[seqIndex_neg (by omega) h4] at h1
   rw[List.size_toArray,←hl]
   exact Option.some.inj h1
  exact subscriptTail_builtinR (x:=w) pl.isList.typeIs slot_list_getitem.lookup
   (wpAny_getItem_list_neg (Q:=fun r s'=>r=w∧EP X pins σ Q r s') pl.isList (by omega) (by rw[List.size_toArray]<;>omega) (by omega) (by rw[hj];simpa using ew) ⟨rfl,fin⟩) hs
theorem WI:Y2 X (Yi X.K):=by
 intro value slice pins s σ H x y v u Q I rx ry h hs
 obtain⟨p,xs,i,z,rfl,rfl,hq,he,q⟩:=h
 cases rx
 obtain⟨t,rfl⟩:=ry
 obtain⟨its,r,pl,hz⟩:=I.tuple hq
 obtain⟨j,h1,h2,h3,h4,h5⟩:=nH he
 obtain⟨w,ew,rw'⟩:=r.get h2
 have hl:=r.length
 have hn:=um
 have fin:EP X pins σ Q w s:=⟨z,H,I,rw',q⟩
 exact subscriptTail_builtinR (x:=w) pl.typeIs slot_tuple_getitem.lookup
  (getItem_tuple (j:=j) (Q:=fun r s'=>r=w∧EP X pins σ Q r s') pl (by omega) (by omega) (by rw[List.size_toArray,←hl];exact h1) (by simpa using ew) ⟨rfl,fin⟩) hs
theorem oj:Y2 X G1:=by
 intro value slice pins s σ H x y v u Q I rx ry h hs
 obtain⟨z,i,c,rfl,rfl,hz,he,q⟩:=h
 obtain⟨t,rfl⟩:=rx
 obtain⟨t',rfl⟩:=ry
 obtain⟨j,h1,h2,h3,h4,h5⟩:=nH he
 have hl:z.cps.toList.length=z.length:=by simp [Str.length]
 rw[hl] at h1 h4 h5
 have hn:=um
 exact tail_any (typeIs_str s z t) slot_str_getitem.lookup (getItem_str (c:=c) (by
  have e1:decide (i < -(2 ^ 63:Int))=false:=decide_eq_false (by omega)
  have e2:decide (i≥2 ^ 63)=false:=decide_eq_false (by omega)
  rw[e1,e2,Bool.or_false]) (by rw[h1];simpa using h2) ⟨.str ⟨#[c]⟩,H,I.tok _,⟨_,rfl⟩,q⟩) hs
noncomputable def FI (K:PySem.W.Frag):R2:=fun x y H Q=>Yo K x y H Q∨Yi K x y H Q∨G1 x y H Q
theorem aZ (its:List Value) (n j:Nat) (u:Value):Obj.mapSeq (·.setIfInBounds j u) { cls:=.type "list",data:=.seq its.toArray n }={ cls:=.type "list",data:=.seq (its.set j u).toArray n }:=by
 simp [Obj.mapSeq]
theorem Inv.lst {pins:List (Addr × Obj)} {σ:St} {H:Hp} {s:Shared} {p:Addr} {xs:List V} (I:Inv X pins σ H s) (h:H p=some (.lst xs)) :
  ∃(its:List Value) (n:Nat),Vals xs its∧s.heap.get? p=some { cls:=.type "list",data:=.seq its.toArray n }∧xs.length≤sizeLine:=by
 obtain⟨z,its,n,r,e⟩:=I.jj p _ h
 exact⟨its,n,r,e,z⟩
theorem Inv.W6 {pins:List (Addr × Obj)} {σ:St} {H:Hp} {s:Shared} {p:Addr} {xs ys:List V} {its its':List Value} {n n':Nat} {f:Obj→Obj} (I:Inv X pins σ H s) (h:H p=some (.lst xs))
  (ho:s.heap.get? p=some { cls:=.type "list",data:=.seq its.toArray n }) (hf:f { cls:=.type "list",data:=.seq its.toArray n }={ cls:=.type "list",data:=.seq its'.toArray n' }) (r:Vals ys its') (hz:ys.length≤sizeLine) (t:Nat) :
  Inv X pins σ (upd H p (.lst ys)) { s with heap:=s.heap.update p f,toks:=t }:=by
 have e:(s.heap.update p f).get? p=some { cls:=.type "list",data:=.seq its'.toArray n' }:=by
  rw[Heap.get?_update_self f ho (by rw[hf]<;>rfl),hf]
 refine I.write (x:=p) (e:=p) (by rw[h];trivial) (.inl rfl) (fun b u hb q=>(Heap.get?_update_other _ _ (Ne.symm hb)).trans q) ⟨_,e⟩ ?_
 exact⟨hz,its',n',r,e⟩
noncomputable def G5:V→V→V→Hp→(Hp→Prop)→Prop:=fun o i v H Q=>∃p xs k j,o=.ref p∧i=.int k∧H p=some (.lst xs)∧Q7 xs.length k=some j∧Q (upd H p (.lst (xs.set j v)))
theorem set_list:Ko X G5:=by
 intro pins s σ H o i v ov iv u Q I ro ri rv h
 obtain⟨p,xs,k,j,rfl,rfl,hp,hj,q⟩:=h
 cases ro
 obtain⟨t,rfl⟩:=ri
 obtain⟨its,n,r,ho,hz⟩:=I.lst hp
 obtain⟨h1,h2,h3,h4⟩:=ZK hj
 have hl:=r.length
 have hn:=um
 have I':Inv X pins σ (upd H p (.lst (xs.set j v))) { s with heap:=s.heap.update p (Obj.mapSeq (·.setIfInBounds j u)) }:=
  I.W6 hp ho (aZ its n j u) (r.set rv j) (by rw[List.length_set];exact hz) s.toks
 by_cases h0:0≤k
 ·have hk:k.toNat=j:=by
   rw[seqIndex_of h0 h4] at h1
   exact Option.some.inj h1
  exact PySem.W.ki_setAt ho h0 (by omega) (by rw[List.size_toArray,←hl];exact h4) (by rw[hk];exact⟨_,I',q⟩)
 ·have hk:(k + (its.toArray.size:Int)).toNat=j:=by
   rw[seqIndex_neg (by omega) h3] at h1
   rw[List.size_toArray,←hl]
   exact Option.some.inj h1
  exact PySem.W.ki_setBack ho (by omega) (by rw[List.size_toArray,←hl];exact h3) (by omega) (by rw[hk];exact⟨_,I',q⟩)
theorem oI (lo hi:Option Int) (n:Nat):(sliceBounds lo hi none n).1=((HT.oF n 0 lo:Nat):Int)∧(sliceBounds lo hi none n).2.1=((HT.oF n n hi:Nat):Int)∧(sliceBounds lo hi none n).2.2=1:=by
 refine⟨?_,?_,rfl⟩
 ·cases lo with
  | none=>simp [sliceBounds,HT.oF]
  | some i=>
   simp only[sliceBounds,HT.oF,Option.getD_none,show (1:Int) > 0 by decide,if_true]
   by_cases h:i < 0
   ·simp only[h,if_true]<;>omega
   ·simp only[h,if_false]<;>omega
 ·cases hi with
  | none=>simp [sliceBounds,HT.oF]
  | some i=>
   simp only[sliceBounds,HT.oF,Option.getD_none,show (1:Int) > 0 by decide,if_true]
   by_cases h:i < 0
   ·simp only[h,if_true]<;>omega
   ·simp only[h,if_false]<;>omega
theorem sI (its:List Value) (lo hi:Option Int):slicePick its.toArray lo hi none=((its.drop (HT.oF its.length 0 lo)).take (HT.oF its.length its.length hi - HT.oF its.length 0 lo)).toArray:=by
 obtain⟨h1,h2,h3⟩:=oI lo hi its.toArray.size
 unfold slicePick
 rw[h1,h2,h3]
 simp only[sliceRange_one,pick_run,List.size_toArray]<;>rfl
noncomputable def Be (K:PySem.W.Frag):V→Option Int→Option Int→Hp→VK→Prop:=fun x lo hi H Q=>∃a xs,x=.ref a∧qM K H a xs∧∀p,H p=none→Q (.ref p) (upd H p (.lst (uv xs lo hi)))
theorem Ve:WX X (Be X.K):=by
 intro pins s σ H x v vl vu lo hi sl Q I rx hs pl pu h
 obtain⟨a,xs,rfl,hx,q⟩:=h
 cases rx
 obtain⟨its,r,ht,hz⟩:=I.list hx
 have hlen:=r.length
 refine⟨"list",_,slot_list_getitem.lookup,ht.isList.typeIs,?_⟩
 refine wpAny_getItem_list_slice ht.isList hs pl pu .none (by simp) ?_ (by rw[List.size_toArray]<;>omega)
 rw[sI,←hlen]
 refine⟨.ref s.heap.objs.size,_,I.laid (t':=s.toks) (o:=.lst (uv xs lo hi)) (fun b ob q=>Heap.get?_push_of_some _ q) (Nat.le_refl _) ?_,rfl,q _ (I.jj.fresh (Nat.le_refl _))⟩
 exact⟨Nat.le_trans (iP xs lo hi) hz,_,0,(r.drop (HT.oF xs.length 0 lo)).take (HT.oF xs.length xs.length hi - HT.oF xs.length 0 lo),Heap.get?_push_size _ rfl⟩
noncomputable def fk:V→Bool
 | .non=>true
 | .bl _=>true
 | .int _=>true
 | .str _=>true
 | _=>false
noncomputable def KU:V→V→Bool
 | .non,.non=>true
 | .bl a,.bl b=>a == b
 | .bl a,.int b=>(if a then 1 else 0) == b
 | .int a,.bl b=>a == (if b then 1 else 0)
 | .int a,.int b=>a == b
 | .str a,.str b=>a == b
 | _,_=>false
theorem WC {A:Around} {s:Shared} {y x:V} {u v:Value} (ry:RelV y u) (rx:RelV x v) (fy:fk y=true) (fx:fk x=true):SeqAt.EqAt A s u v (KU y x):=by
 cases y with
 | non=>
  cases ry
  cases x with
  | non=>cases rx;exact SeqAt.EqAt.same _
  | bl b=>cases rx;exact SeqAt.EqAt.none_bool b
  | int b=>obtain⟨t,rfl⟩:=rx;exact SeqAt.EqAt.none_int b t
  | str b=>obtain⟨t,rfl⟩:=rx;exact SeqAt.EqAt.none_str b t
  | _=>exact absurd (show false=true from fx) Bool.false_ne_true
 | bl a=>
  cases ry
  cases x with
  | non=>cases rx;exact SeqAt.EqAt.bool_none a
  | bl b=>cases rx;exact SeqAt.EqAt.bool_bool a b
  | int b=>obtain⟨t,rfl⟩:=rx;exact SeqAt.EqAt.bool_int a b t
  | str b=>obtain⟨t,rfl⟩:=rx;exact SeqAt.EqAt.bool_str a b t
  | _=>exact absurd (show false=true from fx) Bool.false_ne_true
 | int a=>
  obtain⟨t',rfl⟩:=ry
  cases x with
  | non=>cases rx;exact SeqAt.EqAt.int_none a t'
  | bl b=>cases rx;exact SeqAt.EqAt.int_bool a t' b
  | int b=>obtain⟨t,rfl⟩:=rx;exact SeqAt.EqAt.int_int a t' b t
  | str b=>obtain⟨t,rfl⟩:=rx;exact SeqAt.EqAt.int_str a t' b t
  | _=>exact absurd (show false=true from fx) Bool.false_ne_true
 | str a=>
  obtain⟨t',rfl⟩:=ry
  cases x with
  | non=>cases rx;exact SeqAt.EqAt.str_none a t'
  | bl b=>cases rx;exact SeqAt.EqAt.str_bool a t' b
  | int b=>obtain⟨t,rfl⟩:=rx;exact SeqAt.EqAt.str_int a t' b t
  | str b=>obtain⟨t,rfl⟩:=rx;exact SeqAt.EqAt.str_str a t' b t
  | _=>exact absurd (show false=true from fx) Bool.false_ne_true
 | _=>exact absurd (show false=true from fy) Bool.false_ne_true
noncomputable def KC (x:V) (u:Value):Bool:=match u with
 | .none=>KU .non x
 | .bool b=>KU (.bl b) x
 | .int i _=>KU (.int i) x
 | .str z _=>KU (.str z) x
 | _=>false
theorem JQ {x y:V} {u:Value} (r:RelV y u) (f:fk y=true):KC x u=KU y x:=by
 cases y with
 | non=>cases r;rfl
 | bl b=>cases r;rfl
 | int i=>obtain⟨t,rfl⟩:=r;rfl
 | str z=>obtain⟨t,rfl⟩:=r;rfl
 | _=>exact absurd (show false=true from f) Bool.false_ne_true
theorem nG {x:V}:∀{xs:List V} {us:List Value},Vals xs us→xs.all fk=true→us.any (KC x)=xs.any fun y=>KU y x
 | _,_,.nil,_=>rfl
 | y :: xs,u :: us,.cons r t,f=>by
  rw[List.all_cons,Bool.and_eq_true] at f
  rw[List.any_cons,List.any_cons,JQ r f.1,nG t f.2]
theorem lu {A:Around} {s:Shared} {x:V} {v:Value} (rx:RelV x v) (fx:fk x=true):∀{xs:List V} {us:List Value},Vals xs us→xs.all fk=true→∀u∈us,SeqAt.EqAt A s u v (KC x u)
 | _,_,.nil,_=>fun u hu=>by cases hu
 | y :: xs,u :: us,.cons r t,f=>fun u' hu=>by
  rw[List.all_cons,Bool.and_eq_true] at f
  rcases List.mem_cons.mp hu with rfl | hu
  ·rw[JQ r f.1];exact WC r rx f.1 fx
  ·exact lu rx fx t f.2 u' hu
noncomputable def ZX (x:V) (xs:List V):Bool:=xs.any fun y=>KU y x
noncomputable def Pp (K:PySem.W.Frag) (neg:Bool):R2:=fun x y H Q=>∃p xs,y=.ref p∧(qM K H p xs∨g9 K H p xs)∧fk x=true∧xs.all fk=true∧Q (.bl (if neg then !ZX x xs else ZX x xs)) H
theorem oJ:dw X (compareOp .NotIn) (Pp X.K true):=by
 intro pins s σ H x y v u Q I rx ry h
 obtain⟨p,xs,rfl,hq,fx,fs,q⟩:=h
 cases ry
 rcases hq with hq | hq
 ·obtain⟨its,r,pl,hz⟩:=I.list hq
  refine SeqAt.notIn_listAt (KC x) pl.isList (fun w hw=>lu rx fx r fs w (by simpa using hw)) ⟨.bl _,H,I,rfl,?_⟩
  rw[show its.toArray.any (KC x)=its.any (KC x) by simp,nG r fs]
  exact q
 ·obtain⟨its,r,pl,hz⟩:=I.tuple hq
  refine SeqAt.notIn_tupleAt (KC x) pl (fun w hw=>lu rx fx r fs w (by simpa using hw)) ⟨.bl _,H,I,rfl,?_⟩
  rw[show its.toArray.any (KC x)=its.any (KC x) by simp,nG r fs]
  exact q
theorem nD:vQ X (.builtin "len") (fun xs H Q=>∃p ys,xs=[.ref p]∧(qM X.K H p ys∨g9 X.K H p ys)∧Q (.int ys.length) H):=by
 intro pins s σ H xs us Q I r h
 obtain⟨p,ys,rfl,hq,q⟩:=h
 obtain⟨u,rfl,rx⟩:=vals1 r
 cases rx
 have hn:=um
 rcases hq with hq | hq
 ·obtain⟨its,r',pl,hz⟩:=I.list hq
  have hlen:=r'.length
  exact Calls.call_len_list pl.isList (by simp only[List.size_toArray]<;>omega) ⟨.int ys.length,H,I.tok _,⟨s.toks + 1,by rw[List.size_toArray,hlen]⟩,q⟩
 ·obtain⟨its,r',pl,hz⟩:=I.tuple hq
  have hlen:=r'.length
  exact len_tuple pl (by simp only[List.size_toArray]<;>omega) ⟨.int ys.length,H,I.tok _,⟨s.toks + 1,by rw[List.size_toArray,hlen]⟩,q⟩
theorem dU:vQ X (.builtin "len") (fun xs H Q=>∃z,xs=[.str z]∧z.length≤sizeLine∧Q (.int z.length) H):=by
 intro pins s σ H xs us Q I r h
 obtain⟨z,rfl,hz,q⟩:=h
 obtain⟨u,rfl,t,rfl⟩:=vals1 r
 have hn:=um
 exact len_str (by omega) ⟨.int z.length,H,I.tok _,⟨_,rfl⟩,q⟩
theorem nC:vQ X (.type "list") (fun xs H Q=>∃p ys,xs=[.ref p]∧(qM X.K H p ys∨g9 X.K H p ys)∧∀l,H l=none→Q (.ref l) (upd H l (.lst ys))):=by
 intro pins s σ H xs us Q I r h
 obtain⟨p,ys,rfl,hq,q⟩:=h
 obtain⟨u,rfl,rx⟩:=vals1 r
 cases rx
 have fin:∀(its:List Value),Vals ys its→ys.length≤sizeLine→∀(h':Heap) (c':Nat),(∀b o',s.heap.get? b=some o'→h'.get? b=some o')→
   h'.get? s.heap.objs.size=some { cls:=.type "list",dict:=none,data:=.seq its.toArray c',slots:=#[] }→EP X pins σ Q (.ref s.heap.objs.size) { s with heap:=h' }:=fun its r' hz h' c' kp e=>
  ⟨.ref s.heap.objs.size,_,I.laid (t':=s.toks) kp (Nat.le_refl _) (show xk X.prog X.w _ h' _ (.lst ys) from ⟨hz,its,c',r',e⟩),rfl,q _ (I.jj.fresh (Nat.le_refl _))⟩
 rcases hq with hq | hq
 ·obtain⟨its,r',pl,hz⟩:=I.list hq
  have hlen:=r'.length
  obtain⟨o,ho,hc,n,hd⟩:=pl.isList
  exact call_list_seq p (.inl rfl) ho hc hd (fun h' c' kp e=>fin its r' hz h' c' kp e) (by simp only[List.size_toArray]<;>omega)
 ·obtain⟨its,r',pl,hz⟩:=I.tuple hq
  have hlen:=r'.length
  obtain⟨o,ho,hc,n,hd⟩:=pl
  exact call_list_seq p (.inr rfl) ho hc hd (fun h' c' kp e=>fin its r' hz h' c' kp e) (by simp only[List.size_toArray]<;>omega)
noncomputable def B1 (K:PySem.W.Frag) (T:String) (x:V) (H:Hp):Prop:=match x with
 | .str _=>T = "str"
 | .int _=>T = "int"
 | .ref p=>(T = "list"∧∃xs,qM K H p xs)∨(T = "tuple"∧∃o,K.lookup p=some o∧o.cls=.type "tuple"∧o.dict=none)∨
   (T = "dict"∧((∃kvs,H p=some (.dK kvs))∨∃kvs,H p=some (.dT kvs)))∨(T = "set"∧∃S n,H p=some (.set S n))
 | _=>False
theorem Kq {pins:List (Addr × Obj)} {σ:St} {H:Hp} {s:Shared} {T:String} {x:V} {v:Value} (I:Inv X pins σ H s) (r:RelV x v) (ty:B1 X.K T x H) :
  s.TypeIs v T∧∀a,v=.ref a→∃ob,s.heap.get? a=some ob∧ob.dict=none:=by
 cases x with
 | str z=>
  obtain⟨t,rfl⟩:=r
  cases (show T = "str" from ty)
  exact⟨typeIs_str s z t,fun _ e=>nomatch e⟩
 | int i=>
  obtain⟨t,rfl⟩:=r
  cases (show T = "int" from ty)
  exact⟨typeIs_int s i t,fun _ e=>nomatch e⟩
 | ref p=>
  cases r
  rcases ty with ⟨rfl,xs,hq⟩ | ⟨rfl,o,hk,hc,hd⟩ | ⟨rfl,hk⟩ | ⟨rfl,S,n,hk⟩
  ·obtain⟨its,_,pl,_⟩:=I.list hq
   refine⟨pl.isList.typeIs,fun a e=>?_⟩
   cases e
   obtain⟨o,n,e,c,hd,_⟩:=pl
   exact⟨o,e,hd⟩
  ·refine⟨⟨o,I.gJ p o hk,hc⟩,fun a e=>?_⟩
   cases e
   exact⟨o,I.gJ _ o hk,hd⟩
  ·have z:∃o,s.heap.get? p=some o∧o.ExactDict:=by
    rcases hk with ⟨kvs,hk⟩ | ⟨kvs,hk⟩
    ·obtain⟨_,_,_,_,o,_,_,e,ex,_⟩:=I.jj p _ hk
     exact⟨o,e,ex⟩
    ·obtain⟨_,_,_,_,o,_,_,e,ex,_⟩:=I.jj p _ hk
     exact⟨o,e,ex⟩
   obtain⟨o,e,ex⟩:=z
   refine⟨⟨o,e,ex.1⟩,fun a e2=>?_⟩
   cases e2
   exact⟨o,e,ex.2.1⟩
  ·obtain⟨o,_,_,_,e,ex,_⟩:=I.jj p _ hk
   refine⟨⟨o,e,ex.1⟩,fun a e2=>?_⟩
   cases e2
   exact⟨o,e,ex.2.1⟩
 | _=>exact False.elim ty
noncomputable def BW (K:PySem.W.Frag) (T:String) (r:V→List V→Hp→VK→Prop) (to:TE):TE:=fun σ H Q=>to σ H fun x H1=>B1 K T x H1∧r x [] H1 Q
noncomputable def FZ (K:PySem.W.Frag) (T:String) (r:V→List V→Hp→VK→Prop) (to:TE) (t:TA):TE:=fun σ H Q=>to σ H fun x H1=>B1 K T x H1∧t σ H1 fun xs H2=>r x xs H2 Q
variable {o e:Expr} {es:List Expr} {to:TE} {t:TA} {name:Str} {apos cpos:Pos} {T id:String} {r:V→List V→Hp→VK→Prop}
theorem Xd (pa:PlainAttrs T) (slot:Slot T name id) (hty:typeOf (.builtin id)=pure (.type "method_descriptor")) (hm:Qw X id r) (ho:PE X o to)
  (hbase:attributeBase o name X.env (eval o X.env)=eval o X.env:=by rfl) (hline:(apos.endLine == cpos.line)=true:=by rfl):PE X (.Call (.Attribute o name apos) [] [] cpos) (BW X.K T r to):=by
 intro pins s σ H Q I h
 refine wpAny_Call_method0_late hbase hline (jO (ho pins s σ H _ I h) fun v s1 ⟨x,H1,I1,r1,ty,q1⟩=>?_)
 obtain⟨h1,h2⟩:=Kq I1 r1 ty
 exact⟨T,id,pa,slot,hty,h1,h2,Calls.callWith_builtin rfl (PySem.evalArgs_none (hm pins s1 σ H1 x [] v [] Q I1 r1 .nil q1))⟩
theorem vb (pa:PlainAttrs T) (slot:Slot T name id) (hty:typeOf (.builtin id)=pure (.type "method_descriptor")) (hm:Qw X id r) (ho:PE X o to) (ha:PA X (e :: es) t)
  (hbase:attributeBase o name X.env (eval o X.env)=eval o X.env:=by rfl)
  (hfew:((backTo cpos (starEach (e :: es) X.env)).all (fun x=>!x.1) && (backToKw cpos (keywordEach [] X.env)).all (fun x=>x.1.isSome)
   && decide ((e :: es).length + ([]:List Keyword).length + (if ([]:List Keyword).isEmpty then 0 else 1) < 30))=true:=by rfl)
  (hline:(apos.endLine == cpos.line)=true:=by rfl) (hs:starEach (e :: es) X.env=(false,eval e X.env) :: starEach es X.env:=by rfl) (hplain:(backTo cpos (starEach es X.env)).any (·.1)=false:=by rfl) :
  PE X (.Call (.Attribute o name apos) (e :: es) [] cpos) (FZ X.K T r to t):=by
 intro pins s σ H Q I h
 refine wpAny_Call_method_late hbase hfew hline rfl (jO (ho pins s σ H _ I h) fun v s1 ⟨x,H1,I1,r1,ty,q1⟩=>?_)
 obtain⟨h1,h2⟩:=Kq I1 r1 ty
 refine⟨T,id,pa,slot,hty,h1,h2,?_⟩
 have hA:=ha cpos pins s1 σ H1 _ I1 q1
 rw[hs] at hA ⊢
 refine Calls.callWith_builtin (by show (false || (backTo cpos (starEach es X.env)).any (·.1))=false;rw[hplain]<;>rfl) (Calls.evalArgs_plain ?_)
 exact jO hA fun us s2 ⟨vs,H2,I2,r2,q2⟩=>hm pins s2 σ H2 x vs v us Q I2 r1 r2 q2
end
end L2
namespace L2
open PySem PySem.Spec PyProof.Rows
noncomputable def HS (X:Cx) (id:String) (r:V→List V→Hp→VK→Prop):Prop:=
 ∀(pins:List (Addr × Obj)) (s:Shared) (σ:St) (H:Hp) (x:V) (xs:List V) (v:Value) (us:List Value) (Q:VK),Inv X pins σ H s→RelV x v→Vals xs us→r x xs H Q→
  wpAny (model X.prog X.w) X.A (call (.builtin id) (v :: us)) (EP X pins σ Q) X.xe s
theorem Vals.one:∀{x:V} {us:List Value},Vals [x] us→∃u,us=[u]∧RelV x u
 | _,_,.cons r .nil=>⟨_,rfl,r⟩
theorem Vals.zero:∀{us:List Value},Vals [] us→us=[]
 | _,.nil=>rfl
theorem Vals.dropLast {xs:List V} {us:List Value} (h:Vals xs us):Vals xs.dropLast us.dropLast:=by
 induction h with
 | nil=>exact .nil
 | cons r t ih=>
  cases t with
  | nil=>exact .nil
  | cons q t'=>exact .cons r ih
theorem ax {α:Type} (l:List α):l.eraseIdx (l.length - 1)=l.dropLast:=by
 induction l with
 | nil=>rfl
 | cons a r ih=>
  cases r with
  | nil=>rfl
  | cons b r=>
   have e:(a :: b :: r).length - 1=((b :: r).length - 1) + 1:=by
    have h1:(a :: b :: r).length=r.length + 2:=rfl
    have h2:(b :: r).length=r.length + 1:=rfl
    omega
   rw[e,List.eraseIdx_cons_succ,ih]
   all_goals rfl
section
variable {X:Cx} {pins:List (Addr × Obj)} {σ:St} {H:Hp} {s:Shared} {l b:Addr} {xs ys zs:List V}
theorem Inv.W5 {its its':List Value} {n:Nat} {f:Array Value→Array Value} {t':Nat} (I:Inv X pins σ H s) (hH:H l=some (.lst xs))
  (e:s.heap.get? l=some { cls:=.type "list",data:=.seq its.toArray n }) (hf:f its.toArray=its'.toArray) (hv:Vals ys its') (hz:ys.length≤sizeLine) :
  Inv X pins σ (upd H l (.lst ys)) { s with heap:=s.heap.update l (Obj.mapSeq f),toks:=t' }:=by
 have q:=PySem.IsL.update e f
 rw[hf] at q
 refine I.write (x:=l) (e:=l) (by rw[hH];exact trivial) (.inl rfl) (fun b' u hb hu=>(Heap.get?_update_other s.heap (Obj.mapSeq f) (Ne.symm hb)).trans hu) ⟨_,q⟩ ?_
 exact⟨hz,its',_,hv,q⟩
theorem Inv.K5 {its:List Value} {t':Nat} (I:Inv X pins σ H s) (hv:Vals ys its) (hz:ys.length≤sizeLine) :
  Inv X pins σ (upd H s.heap.objs.size (.lst ys)) { s with heap:=s.heap.push { cls:=.type "list",data:=.seq its.toArray },toks:=t' }:=
 I.laid (fun _ _ q=>Heap.get?_push_of_some _ q) (Nat.le_refl _) ⟨hz,its,0,hv,Heap.get?_push_size _ rfl⟩
theorem Inv.fresh (I:Inv X pins σ H s):H s.heap.objs.size=none:=I.jj.fresh (Nat.le_refl _)
theorem Inv.QW (I:Inv X pins σ H s) (hH:H l=some (.lst xs)):xs.length≤sizeLine∧∃(its:List Value) (n:Nat),Vals xs its∧xs.length=its.length∧s.heap.get? l=some { cls:=.type "list",data:=.seq its.toArray n }:=by
 obtain⟨z,its,n,r,e⟩:=I.jj l _ hH
 exact⟨z,its,n,r,r.length,e⟩
theorem Xq {n:Nat} (h:n≤sizeLine):Builtin.List.listTooLong n=false:=by
 unfold Builtin.List.listTooLong
 exact decide_eq_false (by omega)
end
section
variable {X:Cx}
noncomputable def Vc:V→List V→Hp→VK→Prop:=fun x vs H Q=>∃l xs y,x=.ref l∧vs=[y]∧H l=some (.lst xs)∧xs.length < sizeLine∧Q .non (upd H l (.lst (xs ++ [y])))
theorem uc:HS X "list.append" Vc:=by
 intro pins s σ H x vs v us Q I rx rv h
 obtain⟨l,xs,y,rfl,rfl,hH,hz,q⟩:=h
 cases rx
 obtain⟨u,rfl,ru⟩:=rv.one
 obtain⟨z,its,n,r,hl,e⟩:=I.QW hH
 refine call_meets F.slot_list_append ⟨_,e,rfl⟩ F.entry_list_append (F.args_list_append_2 _ _) (PySem.list_append l its.toArray n u (by rw[List.size_toArray];omega)) ⟨e,?_⟩
 refine⟨.non,_,I.W5 (its':=its ++ [u]) hH e (by simp) (r.append (.cons ru .nil)) ?_,rfl,q⟩
 rw[List.length_append,List.length_singleton]
 omega
noncomputable def Vu:V→List V→Hp→VK→Prop:=fun x vs H Q=>∃l b xs zs,x=.ref l∧vs=[.ref b]∧H l=some (.lst xs)∧H b=some (.lst zs)∧xs.length + zs.length≤sizeLine∧Q .non (upd H l (.lst (xs ++ zs)))
theorem Y6:HS X "list.extend" Vu:=by
 intro pins s σ H x vs v us Q I rx rv h
 obtain⟨l,b,xs,zs,rfl,rfl,hH,hB,hz,q⟩:=h
 cases rx
 obtain⟨u,rfl,ru⟩:=rv.one
 cases ru
 obtain⟨z,its,n,r,hl,e⟩:=I.QW hH
 obtain⟨z2,its2,n2,r2,hl2,e2⟩:=I.QW hB
 have hsz:its.toArray.size + its2.toArray.size≤sizeLine:=by rw[List.size_toArray,List.size_toArray];omega
 have hlong:¬(!its.toArray.isEmpty && Builtin.List.listTooLong (its.toArray.size + its2.toArray.size))=true:=by
  rw[Xq hsz,Bool.and_false]
  exact Bool.false_ne_true
 refine call_meets F.slot_list_extend ⟨_,e,rfl⟩ F.entry_list_extend (F.args_list_extend_2 _ _)
  (AutoSeq1.list_extend_list_list_0 l its.toArray n b its2.toArray n2 hlong (by rw[List.size_toArray];omega) (by omega)) ⟨e,e2,?_⟩
 refine⟨.non,_,I.W5 (its':=its ++ its2) hH e (by simp) (r.append r2) ?_,rfl,q⟩
 rw[List.length_append]
 omega
noncomputable def Bo:V→List V→Hp→VK→Prop:=fun x vs H Q=>∃l xs y,x=.ref l∧vs=[]∧H l=some (.lst xs)∧xs[xs.length - 1]?=some y∧Q y (upd H l (.lst xs.dropLast))
theorem Yq:HS X "list.pop" Bo:=by
 intro pins s σ H x vs v us Q I rx rv h
 obtain⟨l,xs,y,rfl,rfl,hH,hy,q⟩:=h
 cases rx
 have hus:=rv.zero
 subst hus
 obtain⟨z,its,n,r,hl,e⟩:=I.QW hH
 obtain⟨u,hu,ru⟩:=r.get hy
 have hy':its.toArray[its.toArray.size - 1]?=some u:=by
  show its.toArray[its.length - 1]?=some u
  rw[←Array.getElem?_toList,←hl]
  exact hu
 refine call_meets F.slot_list_pop ⟨_,e,rfl⟩ F.entry_list_pop (F.args_list_pop_1 _) (MeetsSeq.list_pop_last l its.toArray n u hy' (by rw[List.size_toArray];omega)) ⟨e,?_⟩
 refine⟨y,_,I.W5 (its':=its.dropLast) hH e ?_ r.dropLast ?_,ru,q⟩
 ·show its.toArray.eraseIdxIfInBounds (its.toArray.size - 1)=its.dropLast.toArray
  rw[List.size_toArray,List.eraseIdxIfInBounds_toArray,ax]
 ·rw[List.length_dropLast]
  omega
noncomputable def Bi:V→List V→Hp→VK→Prop:=fun x vs H Q=>∃l xs i k y,x=.ref l∧vs=[.int i]∧H l=some (.lst xs)∧-(2 ^ 63)≤i∧i < 2 ^ 63∧seqIndex? i xs.length=some k∧xs[k]?=some y∧Q y (upd H l (.lst (xs.eraseIdx k)))
noncomputable def G4:V→List V→Hp→VK→Prop:=fun x vs H Q=>∃l xs,x=.ref l∧vs=[]∧H l=some (.lst xs)∧Q .non (upd H l (.lst xs.reverse))
noncomputable def Bt:V→List V→Hp→VK→Prop:=fun x vs H Q=>∃l xs,x=.ref l∧vs=[]∧H l=some (.lst xs)∧Q .non (upd H l (.lst []))
noncomputable def Bs:R2:=fun x y H Q=>∃l b xs zs,x=.ref l∧y=.ref b∧H l=some (.lst xs)∧H b=some (.lst zs)∧xs.length + zs.length≤sizeLine∧∀p,H p=none→Q (.ref p) (upd H p (.lst (xs ++ zs)))
theorem Yg:dw X (binaryOp .Add) Bs:=by
 intro pins s σ H x y v u Q I rx ry h
 obtain⟨l,b,xs,zs,rfl,rfl,hH,hB,hz,q⟩:=h
 cases rx
 cases ry
 obtain⟨z,its,n,r,hl,e⟩:=I.QW hH
 obtain⟨z2,its2,n2,r2,hl2,e2⟩:=I.QW hB
 refine PySem.P.add_list e e2 ?_ (by rw[List.size_toArray,List.size_toArray];omega)
 have ea:its.toArray ++ its2.toArray=(its ++ its2).toArray:=by simp
 rw[ea]
 exact⟨.ref _,_,I.K5 (t':=s.toks) (r.append r2) (by rw[List.length_append];omega),rfl,q _ I.fresh⟩
noncomputable def Fc:R2:=fun x y H Q=>∃l k xs,x=.ref l∧y=.int k∧H l=some (.lst xs)∧-(2 ^ 63)≤k∧k < 2 ^ 63∧xs.length * k.toNat≤sizeLine∧
 ∀p,H p=none→Q (.ref p) (upd H p (.lst (List.replicate k.toNat xs).flatten))
end
section
variable {prog:Program} {w:World} {A:Around} {E:Value→Shared→Prop} {s:Shared}
end
section
variable {X:Cx}
end
end L2
namespace Att
open PySem PySem.W PySem.Calls PyProof.Rows
theorem uO {P:Params} {h:Heap}:∀(ns:List Int) (vs:List Value),WellAll P h vs (ns.map WData.int)→IntsAre vs ns:=by
 intro ns
 induction ns with
 | nil=>
  intro vs w
  rw[List.map_nil] at w
  cases w
  exact .nil
 | cons n ns ih=>
  intro vs w
  rw[List.map_cons] at w
  cases w with
  | cons a b=>
   cases a
   exact .cons _ _ (ih _ b)
theorem QS {l:OpenLaw} {n:Nat} (hn:l.most=some n) {P:Params} {h:Heap} {args:List WData} {vals:List Value}
  (hpre:l.row.toRowW.claim.pre args=true) (hwl:WellAll P h vals args) :
  ∃a vs ns,vals=[Value.ref a]∧args=[WData.list (ns.map WData.int)]∧h.get? a=some { cls:=.type "list",data:=.seq vs.toArray }∧IntsAre vs ns∧ns.length≤n:=by
 have hsh:WShape.hasAll [] args [.list .int]=true:=(pre_splitW hpre).1
 have hc:l.pre.holds [] { args:=args }=true:=(pre_splitW hpre).2
 obtain⟨d,r,rfl,h1,h2⟩:=hasAllW_cons hsh
 obtain rfl:=hasAllW_nil h2
 obtain⟨xs,rfl,h3⟩:=hasW_list h1
 obtain⟨ns,rfl⟩:=items_int h3
 have hlen:ns.length≤n:=by
  unfold OpenLaw.pre at hc
  have h4:(WTm.not (.lt (.lit (.int (n:Int))) (.len (.arg 0)))).holds [] { args:=[.list (ns.map .int)] }=true:=by
   have h4:=(holds_andW hc).1
   rw[hn] at h4
   exact h4
  have h5:=condW_of h4 (w_not (w_lt w_lit (w_len_list (w_arg rfl))))
  rw[List.length_map] at h5
  refine Nat.le_of_not_lt fun q=>?_
  have q':(n:Int) < ((ns.length:Nat):Int):=by omega
  first
   | (rw[decide_eq_true q'] at h5;exact absurd h5 (by decide))
   | (simp at h5;omega)
 cases hwl with
 | cons w1 w2=>
  cases w2
  cases w1 with
  | list ho hall=>exact⟨_,_,ns,rfl,rfl,ho,uO ns _ hall,hlen⟩
theorem QC (l:OpenLaw) (args:List WData):l.row.toRowW.claim.post args (.bool true) args=true:=
 postW_of (r:=l.row.toRowW) (X:=(true == true))
  (show WShape.has [] (.bool true) .bool=true by first | rfl | decide | simp [WShape.has,WShape.arms,WShape.armsAll])
  (show (WTm.eq .res (.lit (.bool true))).value [] { args:=args,res:=some (.bool true),after:=args }=some (.bool (true == true)) from w_eq_bool (w_res rfl) w_lit) rfl
theorem il {l:OpenLaw} {n:Nat} {q:Program} {loose:List Str} {XP:(Str→Option Value)→Heap→Prop} {YP:World→Heap→Prop} {d:DefRec}
  (hn:l.most=some n) (hdf:d.params.defaults=[])
  (call:∀(w:World) (s₀ s₁:Shared) (mg mb:Str→Option Value) (fa:Addr) (o:Obj) (pm cd doc:Value) (a:Addr) (vs:List Value) (ns:List Int),
   Ground q loose [] XP w s₀ mg mb s₁.heap→YP w s₁.heap→
   s₁.heap.get? fa=some o→o.data=.func (docDef d.name d.params d.body d.scope pm cd doc)→s₁.heap.CodeRec cd d.name→mg d.name=some (.ref fa)→
   s₁.heap.get? a=some { cls:=.type "list",data:=.seq vs.toArray }→IntsAre vs ns→ns.length≤n→s₁.gens = #[]→
   codeAny (model l.prog w) callerA (.call (.ref fa) ⟨[.ref a],[]⟩) (fun r s'=>r=.ok (.ret (.bool true))∧OldK s₁.heap s'.heap∧s'.os=s₁.os∧AllBare s'.gens) s₁) :
  WalkO q loose XP YP l.row.toRowW d [] (fun f vs=>PySem.call f vs):=by
 intro w s₀ s₁ mg mb G Y fa o pm cd doc dV kV ho hd hcd hD hmg hg args vals as hpre hlay hrd hwl hlo
 obtain rfl:dV=.none:=Dflts.none hD hdf
 obtain rfl:kV=.none:=Dflts.noKw hD
 obtain⟨a,vs,ns,rfl,rfl,hobj,hints,hlen⟩:=QS hn hpre hwl
 refine enter_call (codeAny_mono (call w s₀ s₁ mg mb fa o pm cd doc a vs ns G Y ho (fd_plain hd) hcd hmg hobj hints hlen hg) fun r s' hq=>?_)
 obtain⟨rfl,h2,h3,h4⟩:=hq
 exact⟨.inl ⟨.bool true,.bool true,[],rfl,fun _=>rfl,.bool true,QC l _,fun _=>⟨List.Pairwise.nil,fun _ hm=>(nomatch hm)⟩⟩,h2,h3,h4⟩
section
variable {prog:Program} {w:World} {A:Around} {E:Value→Shared→Prop} {s:Shared} {K:Frag}
noncomputable def Bm (h:Heap):Heap:={ h with objs:=#[] }
noncomputable def ledger (h:Heap) (L d:Addr):List (Addr × Obj):=(List.range h.objs.size).filterMap fun a=>if a=L∨a=d then none else (h.get? a).map fun o=>(a,o)
end
end Att
namespace L2
open PySem PySem.Spec PyProof.Rows
theorem nu:∀{vs:List Value} {ns:List Int},IntsAre vs ns→Vals (ns.map V.int) vs
 | _,_,.nil=>.nil
 | _,_,.cons n t h=>.cons ⟨t,rfl⟩ (nu h)
noncomputable def Jx (H:Hp):Prop:=∀b,H b=none∨∃o xs,H b=some (.frz o (.lst xs))
theorem JC {P:Program} {w:World} {K:PySem.W.Frag} {mg mb:Str→Option Value} {CX:rY} {k:Nat} {fa a:Addr} {fd:FuncData} {x:Str} {sp:Sp} {s₁:Shared} {vs:List Value} {ns:List Int}
  (KX:K.In s₁.heap) (hns:s₁.heap.Ns mainGlobals mg) (hb:s₁.heap.Ns builtinsNs mb) (hbb:∀x:Str,x≠"__name__"→mb x=bootBuiltins x) (hlim:s₁.heap.NoLimit) (hg:s₁.gens = #[])
  (ha:s₁.heap.get? a=some { cls:=.type "list",data:=.seq vs.toArray }) (hi:IntsAre vs ns) (hl:ns.length≤sizeLine) (hr:kn k callerA)
  (F:∀base:Heap,K.In base→base.Ns mainGlobals mg→qr P w K mg base CX k fa fd [x] sp) (hbind:∀(s:Shared) (u:Value),BindsTo s fd ⟨[u],[]⟩ [(x,u)])
  (hsp:∀H:Hp,Jx H→qM K H a (ns.map V.int)→sp [.ref a] H (fun v _=>v=.bl true) fun _ _ _=>False)
  (hCX:∀H e s',CX [] H s₁ (fun _ _ _=>False) e s'→False) :
  codeAny (model P w) callerA (.call (.ref fa) ⟨[.ref a],[]⟩) (fun r s'=>r=.ok (.ret (.bool true))∧OldK s₁.heap s'.heap∧s'.os=s₁.os∧AllBare s'.gens) s₁:=by
 have rv:=nu hi
 have lenV:=hi.length
 have core:∀H:Hp,Jx H→qM K H a (ns.map V.int)→bC P w H s₁.heap→(∀b,H b≠none→b=a)→(H a≠none→K.lookup a=none)→
   codeAny (model P w) callerA (.call (.ref fa) ⟨[.ref a],[]⟩) (fun r s'=>r=.ok (.ret (.bool true))∧OldK s₁.heap s'.heap∧s'.os=s₁.os∧AllBare s'.gens) s₁:=by
  intro H hO hS jj hA hK
  have base_of:∀{b:Addr} {o:Obj},s₁.heap.get? b=some o→H b=none→(nA s₁.heap H).get? b=some o:=fun e n=>JB e n
  have noA:∀{b:Addr} {o:Obj} {es:Array DictEntry} {ep:Nat},s₁.heap.get? b=some o→o.data=.dict es ep→H b=none:=fun {b o es ep} e d=>by
   cases q:H b with
   | none=>rfl
   | some u=>
    have e':b=a:=hA b (by rw[q];simp)
    subst e'
    rw[ha] at e;cases e
    have d':Data.seq vs.toArray _=Data.dict es ep:=d
    cases d'
  have nsK:∀{b:Addr} {m:Str→Option Value},s₁.heap.Ns b m→(nA s₁.heap H).Ns b m:=fun {b m} ⟨o,es,ep,e,d,r⟩=>⟨o,es,ep,base_of e (noA e d),d,r⟩
  have hKb:K.In (nA s₁.heap H):=fun b o e=>base_of (KX b o e) (by
   cases q:H b with
   | none=>rfl
   | some u=>
    have e':b=a:=hA b (by rw[q];simp)
    subst e'
    rw[hK (by rw[q];simp)] at e;cases e)
  have hM:Mod K mg (nA s₁.heap H):=⟨hKb,nsK hns,⟨mb,nsK hb,hbb⟩,let ⟨mc,h1,h2⟩:=hlim;⟨mc,nsK h1,h2⟩⟩
  have e0:iu P w K mg (nA s₁.heap H) callerA [] s₁ H:=⟨rfl,hM,fun b o e=>Vy e,Nat.le_of_eq (Qo _ _),trivial,fun b hb=>absurd (show b∈([]:List Addr) from hb) (by simp),jj,.of_eq hg⟩
  refine codeAny_mono ((F _ hKb (nsK hns)).run callerA [] s₁ H ⟨[.ref a],[]⟩ [.ref a] [.ref a] _ _ hr e0 (hbind s₁ (.ref a)) (.cons rfl .nil) (hsp H hO hS)) fun r s' h=>?_
  cases r with
  | error e=>exact(hCX H e s' h).elim
  | ok fl=>
   cases fl with
   | next=>exact False.elim h
   | brk=>exact False.elim h
   | cont=>exact False.elim h
   | ret u=>
    obtain⟨v,H',os,bare,un,hok',r',q⟩:=h
    have q':v=.bl true:=q
    subst q'
    obtain rfl:u=Value.bool true:=r'
    refine⟨rfl,OldK.of_keep fun b o e=>?_,os,bare⟩
    cases q:H b with
    | none=>exact un.keep b o e q (by intro z;exact absurd (show b∈([]:List Addr) from z) (by simp)) (by simp)
    | some u=>
     rcases hO b with z | ⟨ob,xs,z⟩
     ·rw[q] at z;cases z
     ·have z2:=un.uN b ob _ z
      obtain⟨e1,_⟩:=jj b _ z
      obtain⟨e2,_⟩:=hok' b _ z2
      rw[e] at e1;cases e1
      exact e2
 cases hk:K.lookup a with
 | some o=>
  have e:=KX a o hk
  rw[ha] at e
  cases e
  refine core (fun _=>none) (fun _=>.inl rfl) (.inr ⟨_,vs.toArray,_,hk,rfl,rfl,rfl,by rw[List.size_toArray,lenV];exact hl,by simpa using rv⟩) (fun b u z=>by have z':(none:Option HO)=some u:=z;cases z') (fun b z=>absurd rfl z) fun z=>absurd rfl z
 | none=>
  refine core (fun b=>if b=a then some (.frz { cls:=.type "list",data:=.seq vs.toArray } (.lst (ns.map V.int))) else none) (fun b=>?_) (.inl (.inr ⟨{ cls:=.type "list",data:=.seq vs.toArray },if_pos rfl⟩)) (fun b u z=>?_) (fun b z=>?_) fun _=>hk
  ·by_cases hb:b=a
   ·exact .inr ⟨_,_,if_pos hb⟩
   ·exact .inl (if_neg hb)
  ·by_cases hb:b=a
   ·have z':=(if_pos hb).symm.trans z
    cases z'
    subst hb
    exact⟨ha,by rw[List.length_map];exact hl,vs,_,rv,ha⟩
   ·have z':=(if_neg hb).symm.trans z
    cases z'
  ·by_cases hb:b=a
   ·exact hb
   ·exact absurd (if_neg hb) z
end L2
namespace L2
open PySem PySem.Spec PyProof.Rows
noncomputable abbrev B7 {K:PySem.W.Frag} {h:Heap} (_:K.In h):PySem.W.Frag:=K
theorem VF {l:PySem.W.OpenLaw} {n k:Nat} {q:Program} {loose:List Str} {XP:(Str→Option Value)→Heap→Prop} {YP:World→Heap→Prop} {d:DefRec} {K:Params→PySem.W.Frag} {CX:World→rY} {sp:World→Sp} {x:Str}
  (hn:l.most=some n) (hn2:n≤sizeLine) (hdf:d.params.defaults=[]) (hr:kn k callerA)
  (hY:∀(w:World) (h:Heap),YP w h→(K w.params).In h)
  (F:∀(w:World) (mg:Str→Option Value) (fa:Addr) (h:Heap),(K w.params).In h→h.Ns mainGlobals mg→mg d.name=some (.ref fa)→
   ∃fd:FuncData,(∀(s:Shared) (u:Value),BindsTo s fd ⟨[u],[]⟩ [(x,u)])∧
    ∀base:Heap,(K w.params).In base→base.Ns mainGlobals mg→qr l.prog w (K w.params) mg base (CX w) k fa fd [x] (sp w))
  (hsp:∀(w:World) (H:Hp) (a:Addr) (ns:List Int),ns.length≤n→Jx H→qM (K w.params) H a (ns.map V.int)→sp w [.ref a] H (fun v _=>v=.bl true) fun _ _ _=>False)
  (hCX:∀(w:World) (H:Hp) (s:Shared) (e:Value) (s':Shared),CX w [] H s (fun _ _ _=>False) e s'→False) :
  PySem.W.WalkO q loose XP YP l.row.toRowW d [] (fun f vs=>PySem.call f vs):=by
 refine Att.il hn hdf fun w s₀ s₁ mg mb fa o pm cd doc a vs ns G Y ho hd hcd hmg hobj hints hlen hg=>?_
 have KX:=hY w _ Y
 obtain⟨fd,hb,hF⟩:=F w mg fa _ KX G.T.g hmg
 exact JC KX G.T.g G.T.b G.T.builtins G.T.nolimit hg hobj hints (Nat.le_trans hlen hn2) hr hF hb (fun H hO hS=>hsp w H a ns hlen hO hS) fun H e s'=>hCX w H s₁ e s'
theorem Kk {l:PySem.W.OpenLaw} {n k:Nat} {q:Program} {loose:List Str} {XP:(Str→Option Value)→Heap→Prop} {YP:World→Heap→Prop} {d:DefRec} {K:Params→PySem.W.Frag} {CX:rY} {sp:PySem.W.Frag→Sp} {x:Str}
  (hn:l.most=some n) (hn2:n≤sizeLine) (hdf:d.params.defaults=[]) (hr:kn k callerA)
  (hY:∀(w:World) (h:Heap),YP w h→(K w.params).In h)
  (F:∀(w:World) (mg:Str→Option Value) (fa:Addr) (h:Heap),(K w.params).In h→h.Ns mainGlobals mg→mg d.name=some (.ref fa)→
   ∃fd:FuncData,(∀(s:Shared) (u:Value),BindsTo s fd ⟨[u],[]⟩ [(x,u)])∧
    ∀base:Heap,(K w.params).In base→base.Ns mainGlobals mg→qr l.prog w (K w.params) mg base CX k fa fd [x] (sp (K w.params)))
  (hsp:∀(K:PySem.W.Frag) (H:Hp) (a:Addr) (ns:List Int),ns.length≤n→Jx H→qM K H a (ns.map V.int)→sp K [.ref a] H (fun v _=>v=.bl true) fun _ _ _=>False)
  (hCX:∀(H:Hp) (s:Shared) (e:Value) (s':Shared),CX [] H s (fun _ _ _=>False) e s'→False) :
  PySem.W.WalkO q loose XP YP l.row.toRowW d [] (fun f vs=>PySem.call f vs):=
 VF (K:=K) (CX:=fun _=>CX) (sp:=fun w=>sp (K w.params)) hn hn2 hdf hr hY F (fun w H a ns h1 h2 h3=>hsp (K w.params) H a ns h1 h2 h3) fun _ H s e s'=>hCX H s e s'
end L2
namespace L2
open PySem PySem.Spec PyProof.Rows
noncomputable def inClass (s:Stmt) (j:Nat):Stmt:=match s with
 | .ClassDef _ _ _ body _ _ _ _ _ _ _=>body.getD j (.Pass ⟨0,0,0,0⟩)
 | _=>.Pass ⟨0,0,0,0⟩
noncomputable def qj (s:Stmt):Arguments:=match s with
 | .FunctionDef _ a _ _ _ _ _ _ _ _=>a
 | _=>{ posonlyargs:=[],args:=[],vararg:=none,kwonlyargs:=[],kw_defaults:=[],kwarg:=none,defaults:=[] }
noncomputable def qq (s:Stmt):List Stmt:=match s with
 | .FunctionDef _ _ b _ _ _ _ _ _ _=>b
 | _=>[]
noncomputable def z6 (s:Stmt):Scope:=match s with
 | .FunctionDef _ _ _ _ _ _ sc _ _ _=>sc
 | _=>{ kind:=.function,names:=[],isGenerator:=false,isCoroutine:=false }
noncomputable abbrev jy:rY:=fun _ _ _ _ _ _=>False
noncomputable abbrev E0:XK:=fun _ _ _=>False
theorem qK {X:Cx}:Passes jy X E0:=fun _ _ _ _ _ _ _ h=>h.elim
structure Kn (K:PySem.W.Frag) (x qual:Str) (st:Stmt) (f:Addr) (fd:FuncData):Prop where
 ex:∃(oc:Value) (od:Option Addr) (kV doc pm:Value) (an:Option Addr) (cdv ct:Value) (osl:Array (Option Value)),
  fd=PySem.W.fnOf x qual (qj st) (qq st) (z6 st) .none kV doc pm an cdv ct∧K.lookup f=some ⟨oc,od,.func fd,osl⟩∧PySem.W.codeIn K cdv qual=true
 kp:PySem.W.keepIn K (.ref f)=true
section
variable {P:Program} {w:World} {K:PySem.W.Frag} {mg:Str→Option Value} {base:Heap}
theorem Kn.ok {x qual:Str} {st:Stmt} {f:Addr} {fd:FuncData} {N ps:List Str} {k:Nat} {sp:Sp} (F:Kn K x qual st f fd) (S:qm N ps (z6 st)) (len:∀vs H Q E,sp vs H Q E→vs.length=ps.length)
  (hbody:∀(cdv:Value) (A:Around) (outer:List Env) (s:Shared) (H:Hp) (vs:List V) (Q:VK) (E:XK),kn k (A.deeper (envOfC qual (z6 st) s.heap.objs.size f cdv))→sp vs H Q E→
   ∃t,sW (nL jy P w K mg base N qual (z6 st) f cdv A outer s H E).HK (qq st) t∧t { nx:=fun _ H'=>Q .non H',rt:=Q } (start N vs) H):qr P w K mg base jy (k + 1) f fd ps sp:=by
 obtain⟨oc,od,kV,doc,pm,an,cdv,ct,osl,rfl,lk,hcd⟩:=F.ex
 refine VA lk hcd S len fun A outer s H vs Q E hr hsp=>?_
 obtain⟨t,h,q⟩:=hbody cdv A outer s H vs Q E hr hsp
 exact⟨t,h.HK,q⟩
theorem Kn.binds {x qual:Str} {st:Stmt} {f:Addr} {fd:FuncData} {ps:List Str} (F:Kn K x qual st f fd)
  (h:∀(kV doc pm:Value) (an:Option Addr) (cdv ct:Value) (us:List Value),us.length=ps.length→bindArgs (PySem.W.fnOf x qual (qj st) (qq st) (z6 st) .none kV doc pm an cdv ct) ⟨us,[]⟩=pure (ps.zip us)):Binds K fd ps []:=by
 obtain⟨oc,od,kV,doc,pm,an,cdv,ct,osl,rfl,lk,hcd⟩:=F.ex
 exact .all (h kV doc pm an cdv ct)
theorem qQ {x qual:Str} {st:Stmt} {f:Addr} {oc:Value} {od an:Option Addr} {osl:Array (Option Value)} {kV doc pm cdv ct:Value} (l:K.lookup f=some ⟨oc,od,.func (PySem.W.fnOf x qual (qj st) (qq st) (z6 st) .none kV doc pm an cdv ct),osl⟩)
  (c:PySem.W.codeIn K cdv qual=true) (k:PySem.W.keepIn K (.ref f)=true):Kn K x qual st f (PySem.W.fnOf x qual (qj st) (qq st) (z6 st) .none kV doc pm an cdv ct):=⟨⟨oc,od,kV,doc,pm,an,cdv,ct,osl,rfl,l,c⟩,k⟩
end
theorem xE {A:Around} {k:Nat} (hr:kn k A):A.units + 1 < cLine:=Nat.lt_of_le_of_lt (Nat.add_le_add_left (by decide:1≤64) _) hr.units
theorem mY {n:Nat} (h:n≤1000):n < sizeLine:=Nat.lt_of_le_of_lt h (by decide)
section
variable {X:Cx}
theorem pv (i:Nat) {x:Str} {pos:Pos} (hN:X.N[i]?=some x:=by rfl) (hv:HJ X.env.scope x:=by first | exact Or.inl rfl | exact Or.inr (Or.inl rfl) | exact Or.inr (Or.inr rfl)) (hd:(x == ("__debug__" : Str))=false:=by decide)
  (hcd:(x == ("__classdict__" : Str))=false:=by decide):PE X (.Name x pos) (Hn i):=Yd hN hv hd hcd
end
theorem oq {A B:Prop} (h:B):if false=true then A else B:=by
 rw[if_neg Bool.false_ne_true]
 exact h
theorem ug {A B:Prop} (h:A):if true=true then A else B:=by
 rw[if_pos rfl]
 exact h
theorem jm {c A B:Prop} [Decidable c] (h1:c→A) (h2:¬c→B):if c then A else B:=by
 by_cases h:c
 ·rw[if_pos h]
  exact h1 h
 ·rw[if_neg h]
  exact h2 h
noncomputable def qp (H H':Hp):Prop:=∀b o,H b=some o→H' b=some o
theorem qp.refl (H:Hp):qp H H:=fun _ _ h=>h
theorem qp.trans {H H1 H2:Hp} (a:qp H H1) (b:qp H1 H2):qp H H2:=fun c o h=>b c o (a c o h)
theorem qp.free {H H':Hp} (e:qp H H') {l:Addr} (h:H' l=Option.none):H l=Option.none:=by
 cases q:H l with
 | none=>rfl
 | some o=>
  rw[e l o q] at h
  cases h
theorem qp.seq {K:PySem.W.Frag} {H H':Hp} {a:Addr} {xs:List V} (e:qp H H') (h:qM K H a xs):qM K H' a xs:=by
 rcases h with (h | ⟨o,h⟩) | h
 ·exact .inl (.inl (e _ _ h))
 ·exact .inl (.inr ⟨o,e _ _ h⟩)
 ·exact .inr h
end L2
namespace L2
open PySem PySem.Spec PyProof.Rows
section
variable {X:Cx}
end
noncomputable def HZ (z:Str):It:=⟨fun i _=>i < z.length,fun i H x H'=>H'=H∧∃c,z.cps[i]?=some c∧x=.str ⟨#[c]⟩,fun i _=>i=z.length⟩
theorem nQ {prog:Program} {w:World} {A:Around} (hh:A.handled=none) (I:Addr) (x:Str) (t:Tok) :
  Walks prog w A I [I] [I] x.cps.size (SignAt x) (fun i h=>h.IsStrIter I (strIterType x) x t i):=by
 unfold strIterType
 split
 ·exact Walks.strAscii hh I x t
 ·exact Walks.strWide hh I x t
theorem tq (z:Str):["enumerate","zip","dict_itemiterator","dict_reverseitemiterator","odict_iterator","itertools.zip_longest","itertools.pairwise"].contains (strIterType z)=false:=by
 unfold strIterType
 split<;>decide
theorem X9 {P:Program} {w:World} {K:PySem.W.Frag} {tg:Expr} (z:Str) (t:Tok) (it:Addr):Turn P w K tg (HZ z) [it] it (fun i h=>h.IsStrIter it (strIterType z) z t i) where
 mem:=by simp
 obj:=fun i h st b hb=>by
  have e:b=it:=by simpa using hb
  subst e
  obtain⟨o,e,c,d⟩:=st
  exact⟨o,e,fun v q=>by rw[d] at q;cases q⟩
 keep:=fun i h h' st k=>by
  obtain⟨o,e,r⟩:=st
  exact⟨o,k it (by simp) o e,r⟩
 item:=by
  intro X hP hw hK hc i pins s σ H E I hf st hg
  subst hP hw hK
  obtain⟨f0,f1,f2,f3,f4,f5⟩:=hf it (by simp)
  have W:=nQ (prog:=X.prog) (w:=X.w) (I.ok.hd hc) it z t
  refine W.item i s _ _ (show i < z.cps.size from hg) st fun v h' tk hv st' kk=>?_
  obtain⟨c,u,hcx,rfl⟩:=hv
  have I1:Inv X pins σ H { s with heap:=h',toks:=tk }:=I.turned (fun b o hb e=>kk b o (by simpa using hb) e) f0 f1 f3 f4 f5
  obtain⟨o,e,hcl,d⟩:=id st'
  exact⟨_,rfl,Za (s:={ s with heap:=h',toks:=tk }) e hcl d (tq z) ⟨.str ⟨#[c]⟩,H,I1,⟨u,rfl⟩,⟨rfl,c,hcx,rfl⟩,st',fun b hb=>(hf b hb).1⟩⟩
 done:=by
  intro X hP hw hK hc i pins s σ H E I hf st hg
  subst hP hw hK
  obtain⟨f0,f1,f2,f3,f4,f5⟩:=hf it (by simp)
  have hi:i=z.length:=hg
  subst hi
  have W:=nQ (prog:=X.prog) (w:=X.w) (I.ok.hd hc) it z t
  exact W.done s _ _ st fun h' tk kk=>⟨rfl,I.turned (fun b o hb e=>kk b o (by simpa using hb) e) f0 f1 f3 f4 f5⟩
 self:=fun A i s Q E st h=>by
  revert st
  unfold strIterType
  split
  ·intro st
   exact wpAny_pyIter_striter_ascii st h
  ·intro st
   exact wpAny_pyIter_striter_wide st h
section
variable {X:Cx} {tg:Expr}
noncomputable def Bw (tl:TE):TI:=fun σ H R=>tl σ H fun x H1=>∃z,x=.str z∧R (HZ z) H1
theorem Yu {l:Expr} {tl:TE} (hl:PE X l tl):PI X tg l (Bw tl):=by
 intro pins s σ H R I h
 refine jO (hl pins s σ H _ I h) fun v s1 ⟨x,H1,I1,r1,q1⟩=>?_
 obtain⟨z,e,q⟩:=q1
 subst e
 obtain⟨t,rfl⟩:=r1
 refine wpAny_pyIter_strU ?_
 refine⟨s1.heap.objs.size,[s1.heap.objs.size],_,_,H1,rfl,I1.kept (t':=s1.toks) fun b o e=>Heap.get?_push_of_some _ e,X9 z t _,⟨_,Heap.get?_push_size _ rfl,rfl,rfl⟩,fun b hb=>?_,q⟩
 have e:b=s1.heap.objs.size:=by simpa using hb
 subst e
 exact I1.ag (Nat.le_refl _) (I1.jj.fresh (Nat.le_refl _))
end
noncomputable def Fl:V→Option Int→Option Int→Hp→VK→Prop:=fun x lo hi H Q=>∃z,x=.str z∧z.length≤sizeLine∧Q (.str (Txt.slice z lo hi)) H
section
variable {X:Cx}
theorem a8 {ns:List Str}:∀{us:List Value},Vals (ns.map V.str) us→StrsAre us ns:=by
 induction ns with
 | nil=>intro us h;cases h;exact .nil
 | cons n ns ih=>
  intro us h
  cases h with
  | cons r t=>
   obtain⟨tk,rfl⟩:=r
   exact .cons n tk (ih t)
noncomputable def rJoin (K:PySem.W.Frag):V→List V→Hp→VK→Prop:=fun x vs H Q=>∃z p ys,x=.str z∧vs=[.ref p]∧qM K H p (ys.map V.str)∧(ys.map (·.length)).sum + ys.length * z.length≤16777216∧Q (.str (Txt.join z ys)) H
theorem K7:Qw X "str.join" (rJoin X.K):=by
 intro pins s σ H x vs v us Q I rx rv h
 obtain⟨z,p,ys,rfl,rfl,hq,hz,q⟩:=h
 obtain⟨t,rfl⟩:=rx
 obtain⟨u,rfl,ru⟩:=rv.one
 cases ru
 obtain⟨its,r,pl,_⟩:=I.list hq
 exact join_list pl.isList (a8 (by simpa using r)) hz fun t' k=>⟨.str (Txt.join z ys),H,I.tok _,⟨t',rfl⟩,q⟩
noncomputable def Pf:R2:=fun x y H Q=>∃z n,x=.str z∧y=.int n∧MulOk z n∧Q (.str (Txt.mul z n)) H
noncomputable def Pb:V→List V→Hp→VK→Prop:=fun x vs H Q=>∃z y,x=.str z∧vs=[.str y]∧Q (.int (Txt.find z y)) H
theorem sG:vQ X (.type "int") (fun xs H Q=>∃z n,xs=[.str z]∧PySem.intText? z=some n∧z.length≤640∧Q (.int n) H):=by
 intro pins s σ H xs us Q I r h
 obtain⟨z,n,rfl,hn,hl,q⟩:=h
 obtain⟨u,rfl,t,rfl⟩:=vals1 r
 exact PySem.W.KIN.call_text hn hl ⟨.int n,H,I.tok _,⟨_,rfl⟩,q⟩
noncomputable def Ju:V→Value
 | .ty n=>.type n
 | .ref a=>.ref a
 | _=>.none
theorem iJ:vQ X (.builtin "isinstance") (fun xs H Q=>∃x c t b,xs=[x,c]∧((∃n,c=.ty n)∨∃a,c=.ref a)∧pN X.K H x t∧PySem.W.kitOne X.K t (Ju c)=some b∧Q (.bl b) H):=by
 intro pins s σ H xs us Q I r h
 obtain⟨x,c,t,b,rfl,hc,ty,hk,q⟩:=h
 obtain⟨u,u',rfl,rx,rc⟩:=vals2 r
 have e:u'=Ju c:=by
  rcases hc with ⟨n,rfl⟩ | ⟨a,rfl⟩
  ·exact rc
  ·exact rc
 subst e
 exact Qe I rx ty hk fun tk=>⟨.bl b,H,I.tok _,rfl,q⟩
theorem range_all (bs:List Bool):(List.range bs.length).all (fun i=>bs.getD i true)=bs.all id:=by
 rw[Bool.eq_iff_iff,List.all_eq_true,List.all_eq_true]
 constructor
 ·intro h x hx
  obtain⟨i,hi,e⟩:=List.getElem_of_mem hx
  have:=h i (List.mem_range.mpr hi)
  rw[List.getD_eq_getElem?_getD,List.getElem?_eq_getElem hi] at this
  rw[←e]
  exact this
 ·intro h i hi
  have hi':=List.mem_range.mp hi
  rw[List.getD_eq_getElem?_getD,List.getElem?_eq_getElem hi']
  exact h _ (List.getElem_mem hi')
theorem hV (hc:X.calm=true):vQ X (.builtin "all") (fun xs H Q=>∃(p:Addr) (bs:List Bool),xs=[.ref p]∧qM X.K H p (bs.map V.bl)∧Q (.bl (bs.all id)) H):=by
 intro pins s σ H xs us Q I r h
 obtain⟨p,bs,rfl,hq,q⟩:=h
 obtain⟨u,rfl,ru⟩:=vals1 r
 cases ru
 obtain⟨its,rv,pl,_⟩:=I.list hq
 have hl:=rv.length
 rw[List.length_map] at hl
 refine call_all_walk (wpAny_pyIter_list pl.isList ?_)
 have hne:p≠s.heap.objs.size:=Nat.ne_of_lt (by obtain⟨o,n,e,_⟩:=pl;exact Heap.lt_size e)
 refine⟨s.heap.objs.size,_,_,_,_,_,fun i=>bs.getD i true,rfl,Walks.list (show X.A.in1.handled=none from I.ok.hd hc) s.heap.objs.size p hne its.toArray,⟨⟨_,Heap.get?_push_size _ rfl,rfl,rfl⟩,?_⟩,?_,?_⟩
 ·obtain⟨o,e,rest⟩:=pl.isList
  exact⟨o,Heap.get?_push_of_some _ e,rest⟩
 ·intro i v s' Q' E' hv hQ'
  have hv':its[i]?=some v:=by simpa using hv
  have hi:i < bs.length:=by rw[hl];exact(List.getElem?_eq_some_iff.mp hv').1
  obtain⟨u,e1,e2⟩:=rv.get (i:=i) (x:=V.bl bs[i]) (by rw[List.getElem?_map,List.getElem?_eq_getElem hi];rfl)
  rw[hv'] at e1
  cases e1
  cases e2
  dsimp only at hQ'
  rw[List.getD_eq_getElem?_getD,List.getElem?_eq_getElem hi] at hQ'
  exact wpAny_truthy_bool hQ'
 ·intro h' tk kk
  have I1:Inv X pins σ H { s with heap:=h',toks:=tk }:=I.kept fun b o e=>kk b o (by
   intro z
   have z':b=s.heap.objs.size:=by simpa using z
   exact absurd (Heap.lt_size e) (by rw[z'];exact Nat.lt_irrefl _)) (Heap.get?_push_of_some _ e)
  refine⟨.bl _,H,I1,?_,q⟩
  show Value.bool _=Value.bool _
  rw[List.size_toArray,←hl,range_all]
mutual
inductive sY (K:PySem.W.Frag) (H:Hp):V→PyData→Prop where
 | non:sY K H .non .none
 | bl (b:Bool):sY K H (.bl b) (.bool b)
 | int (i:Int):sY K H (.int i) (.int i)
 | str (x:Str):sY K H (.str x) (.str x)
 | lst {a:Addr} {xs:List V} {ds:List PyData}:qM K H a xs→pE K H xs ds→sY K H (.ref a) (.list ds)
 | tup {a:Addr} {xs:List V} {ds:List PyData}:g9 K H a xs→pE K H xs ds→sY K H (.ref a) (.tuple ds)
inductive pE (K:PySem.W.Frag) (H:Hp):List V→List PyData→Prop where
 | nil:pE K H [] []
 | cons {x:V} {xs:List V} {d:PyData} {ds:List PyData}:sY K H x d→pE K H xs ds→pE K H (x :: xs) (d :: ds)
end
mutual
theorem sY.reads {pins:List (Addr × Obj)} {σ:St} {H:Hp} {s:Shared} (I:Inv X pins σ H s):∀{x:V} {d:PyData} {v:Value},sY X.K H x d→RelV x v→∃as,Reads s.heap v d as
 | _,_,_,.non,r=>by cases r;exact⟨_,.none⟩
 | _,_,_,.bl b,r=>by cases r;exact⟨_,.bool b⟩
 | _,_,_,.int i,r=>by obtain⟨t,rfl⟩:=r;exact⟨_,.int i t⟩
 | _,_,_,.str x,r=>by obtain⟨t,rfl⟩:=r;exact⟨_,.str x t⟩
 | _,_,_,.lst hq rs,r=>by
  cases r
  obtain⟨its,rv,pl,_⟩:=I.list hq
  obtain⟨as,ra⟩:=pE.reads I rs rv
  obtain⟨o,n,e,c,_,d⟩:=pl
  exact⟨_,.list e c d (by simpa using ra)⟩
 | _,_,_,.tup hq rs,r=>by
  cases r
  obtain⟨its,rv,pl,_⟩:=I.tuple hq
  obtain⟨as,ra⟩:=pE.reads I rs rv
  obtain⟨o,e,c,n,d⟩:=pl
  exact⟨_,.tuple e c d (by simpa using ra)⟩
theorem pE.reads {pins:List (Addr × Obj)} {σ:St} {H:Hp} {s:Shared} (I:Inv X pins σ H s):∀{xs:List V} {ds:List PyData} {vs:List Value},pE X.K H xs ds→Vals xs vs→∃as,ReadsAll s.heap vs ds as
 | _,_,_,.nil,r=>by cases r;exact⟨_,.nil⟩
 | _,_,_,.cons q qs,r=>by
  cases r with
  | cons r rs=>
   obtain⟨as,ra⟩:=sY.reads I q r
   obtain⟨bs,rb⟩:=pE.reads I qs rs
   exact⟨_,.cons ra rb⟩
end
noncomputable def G0 (K:PySem.W.Frag) (neg:Bool):R2:=fun x y H Q=>∃d e,sY K H x d∧sY K H y e∧SeqAt.shaped d=true∧SeqAt.shaped e=true∧Q (.bl (if neg then !PyData.eqv d e else PyData.eqv d e)) H
theorem Yh (hu:X.A.units + 64 < cLine):dw X (compareOp .Eq) (G0 X.K false):=by
 intro pins s σ H x y v u Q I rx ry h
 obtain⟨d,e,h1,h2,h3,h4,q⟩:=h
 obtain⟨as,ra⟩:=h1.reads I rx
 obtain⟨bs,rb⟩:=h2.reads I ry
 exact eq_dataH ra rb h3 h4 hu ⟨.bl _,H,I,rfl,q⟩
theorem pE.strs {K:PySem.W.Frag} {H:Hp}:∀xs:List Str,pE K H (xs.map V.str) (xs.map PyData.str)
 | []=>.nil
 | x :: r=>.cons (.str x) (pE.strs r)
theorem eqvAll_map {α : Type} [DecidableEq α] {f : α → PyData} (hf : ∀ x y, PyData.eqv (f x) (f y) = decide (x = y)) (xs : List α) : ∀ ys : List α, PyData.eqvAll (xs.map f) (ys.map f) = decide (xs = ys) := by
  induction xs with
  | nil => intro ys; cases ys <;> simp [PyData.eqvAll]
  | cons x r ih =>
    intro ys
    cases ys
    · simp [PyData.eqvAll]
    · simp [PyData.eqvAll, hf, ih]
theorem uV (xs ys : List Str) : PyData.eqvAll (xs.map PyData.str) (ys.map PyData.str) = decide (xs = ys) := eqvAll_map (fun x y => by rw [PyData.eqv]; by_cases h : x = y <;> simp [h]) xs ys
theorem uK:∀xs:List Str,(∀x∈xs,PyData.strOk x=true)→PyData.canLayAll0 (xs.map PyData.str)=true∧PyData.depthAll (xs.map PyData.str)=0
 | [],_=>⟨rfl,rfl⟩
 | x :: r,h=>by
  have q:=uK r fun y hy=>h y (List.mem_cons_of_mem _ hy)
  simp [PyData.canLayAll0,PyData.canLay0,PyData.depthAll,PyData.depth,q.1,q.2,h x List.mem_cons_self]
theorem fN {xs:List Str} (h:∀x∈xs,PyData.strOk x=true):SeqAt.shaped (.list (xs.map PyData.str))=true:=by
 have q:=uK xs h
 simp [SeqAt.shaped,PyData.canLay0,PyData.depth,q.1,q.2]
end
section
variable {X:Cx} {CX:rY} {k:Nat} {f C:Addr} {fd:FuncData} {ps:List Str} {sp:Sp} {dvs:List V} {ds:List Value} {E:XK} {x m:Str} {p pos apos:Pos} {e:Expr} {es:List Expr} {t:TA}
structure Q9 (K:PySem.W.Frag) (C:Addr) (m:Str) (f:Addr):Prop where
 ga:PySem.W.specialIn K (.ref C) "__getattribute__" = some (some (.builtin "type.__getattribute__"))
 rd:PySem.W.readsIn K C (.type "type")=true
 at_:PySem.W.findCls K (.ref C) (.type "type") m=some (.val (.ref f))
 kp:PySem.W.keepIn K (.ref f)=true
theorem lD {pl:Sem Bool} (hg:Gl X x) (hm:X.mg x=some (.ref C)) (c:Q9 X.K C m f) (F:qr X.prog X.w X.K X.mg X.base CX k f fd ps sp) (hr:kn k X.A) (hb:Binds X.K fd ps ds) (hd:Vals dvs ds) (hx:Passes CX X E) (ha:PA X (e :: es) t)
  (hst:starEach (e :: es) X.env=(false,eval e X.env) :: starEach es X.env:=by rfl) (hpl:(backTo pos (starEach es X.env)).any (·.1)=false:=by rfl) (hdb:(x == ("__debug__" : Str))=false:=by decide)
  (ht:eval (.Call (.Attribute (.Name x p) m apos) (e :: es) [] pos) X.env=(do
   let ov ←eval (.Name x p) X.env
   standAt apos.atName
   let (f,first) ←holding [ov] (getMethod ov m pl)
   callWith pos f first (backTo pos (starEach (e :: es) X.env)) (backToKw pos (keywordEach [] X.env))):=by rfl) :
  PE X (.Call (.Attribute (.Name x p) m apos) (e :: es) [] pos) (X7 sp dvs E t):=by
 intro pins s σ H Q I h
 refine PySem.W.methodCall_KW (pl:=pl) (yj I hg hm ?_ hdb) ht
 refine PySem.W.method_cls I.gJ c.ga (PySem.W.cls_value I.gJ c.rd c.at_ rfl ?_)
 refine PySem.W.callWith_K (first:=[]) (h₀:=X.base) I.ok.mod.ZY c.kp (jO (ha pos pins _ σ H _ (I.tok _) h) fun us s1 ⟨vs,H1,I1,r,q⟩=>⟨I1.gJ,?_⟩) hst hpl
 exact lT F hr hb hd hx I1 r q
end
end L2
namespace L2
open PySem PySem.Spec PyProof.Rows
noncomputable def jz (env:Env):List (Str × NameKind)→List (Str × Addr)→List (Str × Addr)
 | [],acc=>acc
 | (n,k) :: r,acc=>jz env r (if k == .free then (n,(env.cells.lookup n).getD 0) :: acc else acc)
theorem mU {sc:Scope} {env:Env} (h:∀y∈sc.names,y.2=.free→∃c,env.cells.lookup y.1=some c):closureFor sc env=pure (jz env sc.names []):=by
 simp only[closureFor]
 have key:∀(l:List (Str × NameKind)) (acc:List (Str × Addr)),(∀y∈l,y.2=.free→∃c,env.cells.lookup y.1=some c)→
   (forIn l acc (fun (x:Str × NameKind) (r:List (Str × Addr))=>if (x.2 == NameKind.free)=true then do let a ←cellOf env x.1;pure (ForInStep.yield ((x.1,a) :: r)) else pure (ForInStep.yield r)):Sem (List (Str × Addr)))=pure (jz env l acc):=by
  intro l
  induction l with
  | nil=>intro acc _;rfl
  | cons y r ih=>
   intro acc hl
   obtain⟨n,k⟩:=y
   rw[List.forIn_cons]
   have ih':=fun acc=>ih acc fun z hz=>hl z (List.mem_cons_of_mem _ hz)
   by_cases hk:(k == NameKind.free)=true
   ·obtain⟨c,hc⟩:=hl (n,k) List.mem_cons_self (by simpa using hk)
    have hc':env.cells.lookup n=some c:=hc
    have e1:cellOf env n=pure c:=by unfold cellOf;rw[hc']
    simp only[hk,if_true,e1,jz,hc',Option.getD_some]
    exact ih' _
   ·simp only[hk,jz]
    exact ih' _
 rw[key sc.names [] h]
 rfl
theorem vX {env:Env}:∀(l:List (Str × NameKind)) (acc:List (Str × Addr)),(∀z c,acc.lookup z=some c→c=(env.cells.lookup z).getD 0)→
  (∀z c,(jz env l acc).lookup z=some c→c=(env.cells.lookup z).getD 0)∧(∀z,(jz env l acc).lookup z=none↔(acc.lookup z=none∧(z,NameKind.free)∉l))
 | [],acc,h=>⟨h,fun z=>by simp [jz]⟩
 | (n,k) :: r,acc,h=>by
  by_cases hk:(k == NameKind.free)=true
  ·have hk':k=.free:=by simpa using hk
   subst hk'
   have h':∀z c,((n,(env.cells.lookup n).getD 0) :: acc).lookup z=some c→c=(env.cells.lookup z).getD 0:=by
    intro z c e
    rw[List.lookup_cons] at e
    cases hz:z == n with
    | true=>
     rw[hz] at e
     have e':(env.cells.lookup n).getD 0=c:=by simpa using e
     rw[beq_iff_eq.mp hz,e']
    | false=>
     rw[hz] at e
     exact h z c (by simpa using e)
   obtain⟨a,b⟩:=vX r _ h'
   refine⟨by simpa [jz] using a,fun z=>?_⟩
   have b':=b z
   show (jz env r (if (NameKind.free == NameKind.free)=true then _ else acc)).lookup z=none↔_
   rw[if_pos hk,b',List.lookup_cons]
   cases hz:z == n with
   | true=>
    have:z=n:=beq_iff_eq.mp hz
    subst this
    simp
   | false=>
    have hne:z≠n:=by intro q;subst q;simp at hz
    simp [hne]
  ·obtain⟨a,b⟩:=vX r acc h
   have e0:jz env ((n,k) :: r) acc=jz env r acc:=by
    show jz env r (if (k == NameKind.free)=true then _ else acc)=_
    rw[if_neg hk]
   rw[e0]
   refine⟨a,fun z=>?_⟩
   rw[b z]
   have hne:¬(NameKind.free=k):=by intro q;subst q;exact hk rfl
   simp [hne]
/-- a map that W3 the keys alone changes what stands behind a key, and nothing else -/
theorem lookup_vals {α β : Type} {f : Str × α → Str × β} (hf : ∀ p, (f p).1 = p.1) (x : Str) (l : List (Str × α)) : (l.map f).lookup x = (l.lookup x).map fun k => (f (x, k)).2 := by
  induction l with
  | nil => rfl
  | cons p r ih =>
    obtain ⟨n, k⟩ := p
    have e : f (n, k) = (n, (f (n, k)).2) := Prod.ext (hf _) rfl
    rw [List.map_cons, e]
    by_cases q : x = n
    · subst q
      simp [List.lookup_cons]
    · simp [List.lookup_cons, beq_false_of_ne q, ih]
theorem kZ {env : Env} {sc : Scope} {x : Str} : (relabel sc env).names.lookup x = (sc.names.lookup x).map fun k => if k == .free && env.scope.kind == .function && env.kindOf x == some .cell then .cell else k := by
  show (List.map _ sc.names).lookup x = _
  rw [lookup_vals (fun p => by dsimp only; split <;> rfl)]
  congr 1
  funext k
  dsimp only
  split <;> rfl
structure bc (osc:Scope) (N:List Str) (sc:Scope) (x:Str) (names:List Str) (qD:List Nat):Prop where
 kind:sc.kind=.function
 lY:∀y∈sc.names,y.2≠.cell
 locs:∀y∈sc.names,y.2=.local→sc.names.lookup y.1=some .local
 frees:∀y∈sc.names,y.2=.free→osc.names.lookup y.1=some .cell
 own:sc.names.lookup x=some .local
 qD:names.map some=qD.map fun i=>N[i]?
 au:∀y∈names,sc.names.lookup y=some .free
 nd:(x :: names).Nodup
noncomputable def ya (X:Cx) (sc:Scope) (x:Str) (names:List Str) (fp:List Addr) (s₀:Shared) (H₀:Hp):Cx where
 prog:=X.prog
 w:=X.w
 K:=X.K
 mg:=X.mg
 base:=X.base
 A:=X.A
 N:=x :: names
 s₀:=s₀
 H₀:=H₀
 env:=compEnvC sc (jz X.env sc.names []) s₀.heap.objs.size X.env
 outer:=X.stack
 stack:=X.stack
 ex:=fp
 fn:=fun _=>false
 calm:=X.calm
 pn:=[]
 xe:=fun _ _=>False
noncomputable def ye (σ:St) (qD:List Nat):St:=qD.map fun i=>(σ[i]?).join
noncomputable def Zh (J:It) (qD:List Nat) (te:TE) (σ:St) (Q:VK) (H1:Hp):Prop:=∀D,H1 D=none→∃W:Nat→Nat→Hp→Prop,(∃m,W 0 m (upd H1 D (.lst [])))∧∀i m H2,W i m H2→
 (J.stop i H2∧Q (.ref D) H2)∨(J.go i H2∧∀y H3,J.WZ i H2 y H3→te (some y :: ye σ qD) H3 fun v H4=>∃ys,H4 D=some (.lst ys)∧ys.length < sizeLine∧∃m',m' < m∧W (i + 1) m' (upd H4 D (.lst (ys ++ [v]))))
noncomputable def Wu (qD:List Nat) (wi:TI) (te:TE):TE:=fun σ H Q=>wi σ H fun J H1=>Zh J qD te σ Q H1
/-- what comes behind what is known of a first step -/
theorem sq2 {M : Model} {A : Around} {E : Value → Shared → Prop} {s : Shared} {α β : Type} {x : Sem α} {f : α → Sem β} {Q1 : α → Shared → Prop} {Q : β → Shared → Prop} (h : wpAny M A x Q1 E s) (k : ∀ a s1, Q1 a s1 → wpAny M A (f a) Q E s1) : wpAny M A (x >>= f) Q E s := wpAny_bind (jO h k)
/-- a step of a comprehension's turn: what it raises is noted in the comprehension's own frame -/
abbrev Noted (prog : Program) (w : World) (A : Around) (env : Env) (R : Result → Shared → Prop) {α : Type} (x : Sem α) (Q : α → Shared → Prop) (s : Shared) : Prop := wpAny (model prog w) A x Q (notedBy (model prog w) A env fun e => R (.error e)) s
abbrev testB (env : Env) (c : Expr) (r : Bool) : Sem (ForInStep Bool) := if r = true then isTrue c env (eval c env) >>= fun ok => pure (.yield ok) else pure (.yield r)
section
variable {prog:Program} {w:World} {A:Around} {R:Result→Shared→Prop} {s:Shared}
theorem iH {el tg src : Expr} {scope : Scope} {pos : Pos} {it acc : Value} {env : Env} (I : Nat → Shared → Prop)
    (turn : ∀ n s, I n s → Noted prog w A env R (pyNext it) (fun r s1 => match r with
      | none => R (.ok .next) s1
      | some v => Noted prog w A env R (letOwnedTupleGo tg it v) (fun _ => Noted prog w A env R (assign tg env v) fun _ => Noted prog w A env R (eval el env) fun x => Noted prog w A env R (call (.builtin "list.append") [acc, x]) fun _ s5 => ∃ m, m < n ∧ I m s5) s1) s) (n : Nat) (h : I n s) :
    codeAny (model prog w) A (.compLoop (.ListComp el [⟨tg, src, [], 0⟩] scope pos) 0 it acc env) R s := by
  refine codeAny_loop rfl I (fun k s1 hI => (?_ : wpAny _ _ (Sem.onRaise _ _) _ _ _)) n h
  refine wpAny_noted (compTurn_list .. ▸ wpAny_bind (wpAny_standAt (sq2 (turn k s1 hI) fun r s2 hr => ?_)))
  cases r
  · exact wpAny_pure hr
  · exact sq2 hr fun _ _ a => sq2 a fun _ _ b => wpAny_bind (wpAny_tests_nil (sq2 (sq2 b fun _ _ c => sq2 c fun _ _ d => wpAny_pure d) fun _ _ e => wpAny_pure ⟨rfl, e⟩))
end
section
variable {X:Cx}
theorem WG {pins:List (Addr × Obj)} {σ:St} {H:Hp} {s:Shared} {osc:Scope} {N:List Str} {sc:Scope} {x:Str} {names:List Str} {qD:List Nat} {fp:List Addr}
  (hos:X.env.scope=osc) (cs:bc osc N sc x names qD) (I:Inv X pins σ H s) (hf:∀b∈fp,yT X pins H b) (hlt:∀b∈fp,b < s.heap.objs.size):(ya X sc x names fp s H).Ok:=by
 subst hos
 have cl:=vX (env:=X.env) sc.names [] (fun z c e=>by simp at e)
 have hcl:∀y c,(jz X.env sc.names []).lookup y=some c→X.env.cells.lookup y=some c:=fun y c e=>by
  have e1:=cl.1 y c e
  have hm:(y,NameKind.free)∈sc.names:=by
   by_cases q:(y,NameKind.free)∈sc.names
   ·exact q
   ·have:=(cl.2 y).mpr ⟨rfl,q⟩
    rw[this] at e;cases e
  obtain⟨c',hc'⟩:=I.ok.has y (.inl (cs.frees _ hm rfl))
  rw[hc'] at e1 ⊢
  rw[e1];rfl
 refine⟨I.ok.mod,?_,I.ok.glob,I.ok.blt,Nat.le_refl _,fun y z c h1 h2=>I.ok.inj y z c (hcl y c h1) (hcl z c h2),fun y hy=>?_,fun y c h=>?_,I.ok.hd,I.ok.frames,.inl rfl,fun b hb=>⟨?_,fun y c h=>?_⟩,
  I.bs,Nat.le_trans I.ok.Qp I.sz,fun b o e hb=>?_,fun b hb z=>?_,I.stack,I.mG⟩
 ·exact cs.kind
 ·have hy':(relabel sc X.env).names.lookup y=some .cell∨(relabel sc X.env).names.lookup y=some .free:=hy
  have key:sc.names.lookup y=some .free:=by
   rw[kZ] at hy'
   cases q:sc.names.lookup y with
   | none=>rw[q] at hy';simp at hy'
   | some k=>
    rw[q] at hy'
    have hm:=PySem.mem_of_lookup q
    have hnc:=cs.lY _ hm
    by_cases hk:k=.free
    ·rw[hk]
    ·have e:(if (k == NameKind.free && X.env.scope.kind == .function && X.env.kindOf y == some .cell)=true then NameKind.cell else k)=k:=if_neg (by simp [hk])
     rw[Option.map_some,e] at hy'
     rcases hy' with z | z
     ·exact absurd (Option.some.inj z) hnc
     ·exact absurd (Option.some.inj z) hk
  have hm:=PySem.mem_of_lookup key
  cases q:(jz X.env sc.names []).lookup y with
  | some c=>exact⟨c,q⟩
  | none=>exact absurd hm ((cl.2 y).mp q).2
 ·exact absurd (show false=true from h) (by simp)
 ·exact Nat.ne_of_lt (hlt b hb)
 ·exact(hf b hb).2.2.2.2.1 y c (hcl y c h)
 ·rcases(hf b hb).2.2.2.1 with z | z
  ·exact I.ok.aV b o e z
  ·exact absurd (Nat.lt_of_lt_of_le (Heap.lt_size e) (Nat.le_trans I.ok.Qp z)) (Nat.lt_irrefl _)
 ·rcases List.mem_cons.mp (I.sf b z) with q | q
  ·exact(hf b hb).2.1 q
  ·exact(hf b hb).2.2.1 q
theorem iB {pins:List (Addr × Obj)} {σ:St} {s₂:Shared} {osc:Scope} {N:List Str} {sc:Scope} {x:Str} {px pos:Pos} {elt iter:Expr} {names:List Str} {qD:List Nat} {te:TE} {E:Value→Shared→Prop}
  {RR:Value→Addr→Result→Shared→Prop} {H2:Hp} {it:Addr} {fp:List Addr} {tn:Nat→Heap→Prop} {J:It} {Qd:V→Hp→Prop}
  (hc:X.calm=true) (hos:X.env.scope=osc) (hN:X.N=N) (cs:bc osc N sc x names qD) (he:∀fp s₀ H₀,PE (ya X sc x names fp s₀ H₀) elt te)
  (I2:Inv X pins σ H2 s₂) (T:Turn X.prog X.w X.K (.Name x px) J fp it tn) (st2:tn 0 s₂.heap) (f2:∀b∈fp,yT X pins H2 b)
  (hW:Zh J qD te σ Qd H2)
  (cont:∀D C H5 s6 m,Inv X pins σ H5 s6→s6.heap.Ns C m→yT X pins H5 C→Qd (.ref D) H5→RR (.ref D) C (.ok .next) s6) :
  wpAny (model X.prog X.w) X.A (newList []) (fun acc s₃=>wpAny (model X.prog X.w) X.A (newFunctionEnv sc X.env.globals (jz X.env sc.names []) [] X.env.qual none .none (some X.env)) (fun cenv s₄=>
   codeAny (model X.prog X.w) X.A (.compStart (.ListComp elt [⟨.Name x px,iter,[],0⟩] sc pos) 0 (.ref it) acc { cenv with scope:=relabel sc X.env }) (RR acc cenv.locals) s₄) E s₃) E s₂:=by
 subst hN
 refine wpAny_newObj_type (wpAny_newFunctionEnv cs.lY (by intro y hy;simp at hy) (fun h₁ hns₁ hsb₁=>?_) cs.kind)
 dsimp only at hns₁ hsb₁ ⊢
 have fp2:∀b∈fp,b < s₂.heap.objs.size:=fun b hb=>by
  obtain⟨o,e,_⟩:=T.obj _ _ st2 b hb
  exact Heap.lt_size e
 have I3:Inv X pins σ (upd H2 s₂.heap.objs.size (.lst [])) { s₂ with heap:=s₂.heap.push { cls:=.type "list",dict:=none,data:=.seq ([]:List Value).toArray } }:=I2.K5 (t':=s₂.toks) (its:=[]) .nil (Nat.zero_le _)
 obtain⟨W,⟨m0,w0⟩,turn⟩:=hW s₂.heap.objs.size I2.fresh
 have f3:∀b∈fp,yT X pins (upd H2 s₂.heap.objs.size (.lst [])) b:=fun b hb=>⟨by rw[qW (Nat.ne_of_lt (fp2 b hb))];exact(f2 b hb).1,(f2 b hb).2⟩
 have hD:∀b o,s₂.heap.get? b=some o→(s₂.heap.push { cls:=.type "list",dict:=none,data:=.seq ([]:List Value).toArray }).get? b=some o:=fun b o e=>Heap.get?_push_of_some _ e
 generalize hs3:({ s₂ with heap:=s₂.heap.push { cls:=.type "list",dict:=none,data:=.seq ([]:List Value).toArray } }:Shared)=s₃ at *
 have hs3h:s₃.heap=s₂.heap.push { cls:=.type "list",dict:=none,data:=.seq ([]:List Value).toArray }:=by rw[←hs3]
 rw[←hs3h] at hns₁ hsb₁ hD ⊢
 have Qn:∀b∈fp,b < s₃.heap.objs.size:=fun b hb=>by
  rw[hs3h,Heap.size_push];exact Nat.lt_succ_of_lt (fp2 b hb)
 have k3:∀b o,s₃.heap.get? b=some o→h₁.get? b=some o:=fun b o e=>hsb₁.extBut b o (Nat.ne_of_lt (Heap.lt_size e)) (Heap.get?_push_of_some _ e)
 have ok:=WG hos cs I3 f3 Qn
 have cl:=vX (env:=X.env) sc.names [] (fun z c e=>by simp at e)
 have hcl:∀y c,(jz X.env sc.names []).lookup y=some c→X.env.cells.lookup y=some c:=fun y c e=>by
  have e1:=cl.1 y c e
  have hm:(y,NameKind.free)∈sc.names:=by
   by_cases q:(y,NameKind.free)∈sc.names
   ·exact q
   ·have:=(cl.2 y).mpr ⟨rfl,q⟩
    rw[this] at e;cases e
  obtain⟨c',hc'⟩:=I3.ok.has y (.inl (by show X.env.scope.names.lookup y=_;rw[hos];exact cs.frees _ hm rfl))
  rw[hc'] at e1 ⊢
  rw[e1];rfl
 have cell4:∀y c,(jz X.env sc.names []).lookup y=some c→∀v,s₃.heap.IsCell c v→h₁.IsCell c v:=fun y c e v ⟨o,ho,hd⟩=>⟨o,k3 _ _ ho,hd⟩
 have lenC:qD.length=names.length:=by have:=congrArg List.length cs.qD;simpa using this.symm
 have I4:∀tk,Inv (ya X sc x names fp s₃ (upd H2 s₂.heap.objs.size (.lst []))) [] (none :: ye σ qD) (upd H2 s₂.heap.objs.size (.lst [])) { s₃ with heap:=h₁,toks:=tk }:=fun tk=>by
  refine⟨ok,rfl,I3.bare,Un.kept k3,⟨_,hns₁,fun i y v e1 e2 e3=>?_⟩,fun y c e=>?_,I3.fresh,fun y c e=>I3.yX y c (hcl y c e),fun p hp=>absurd (show p∈([]:List (Addr × Obj)) from hp) (by simp),I3.jj.kept k3,?_⟩
  ·cases i with
   | zero=>simp at e2
   | succ j=>
    have e1':names[j]?=some y:=by simpa [ya] using e1
    have e2':(ye σ qD)[j]?=some (some v):=by simpa using e2
    unfold ye at e2'
    rw[List.getElem?_map] at e2'
    cases qc:qD[j]? with
    | none=>rw[qc] at e2';cases e2'
    | some i0=>
     rw[qc] at e2'
     have e2'':(σ[i0]?).join=some v:=by simpa using e2'
     have e3':σ[i0]?=some (some v):=by
      cases qs:σ[i0]? with
      | none=>rw[qs] at e2'';cases e2''
      | some o=>rw[qs] at e2'';rw[show o=some v from by simpa using e2'']
     have eN:X.N[i0]?=some y:=by
      have q1:(names.map some)[j]?=(qD.map fun i=>X.N[i]?)[j]?:=by rw[cs.qD]
      rw[List.getElem?_map,List.getElem?_map,e1',qc] at q1
      have q2:some y=X.N[i0]?:=by simpa using q1
      exact q2.symm
     have hfree:=cs.au y (List.mem_of_getElem? e1')
     have hm:=PySem.mem_of_lookup hfree
     have hcell:X.env.scope.names.lookup y=some .cell:=by rw[hos];exact cs.frees _ hm rfl
     obtain⟨m,hn,hl⟩:=I3.loc
     obtain⟨u,ru,lk⟩:=hl i0 y v eN e3' (.inr (.inl hcell))
     refine⟨u,ru,?_⟩
     rcases lk with ⟨kk,_⟩ | ⟨kk,c,ec,hcl'⟩
     ·have kk':X.env.scope.names.lookup y=some .local:=kk
      rw[hcell] at kk';cases kk'
     ·refine .inr ⟨?_,c,?_,?_⟩
      ·left
       show (relabel sc X.env).names.lookup y=some .cell
       rw[kZ,hfree]
       have ef:(X.env.scope.kind == ScopeKind.function)=true:=by rw[I3.ok.kind];rfl
       have ek:(X.env.kindOf y == some NameKind.cell)=true:=by
        show (X.env.scope.names.lookup y == some NameKind.cell)=true
        rw[hcell];rfl
       simp [ef,ek]
      ·show (jz X.env sc.names []).lookup y=some c
       cases q:(jz X.env sc.names []).lookup y with
       | none=>exact absurd hm ((cl.2 y).mp q).2
       | some c'=>
        have:=hcl y c' q
        rw[ec] at this
        exact this.symm
      ·obtain⟨o,ho,hd⟩:=hcl'
       exact⟨o,k3 _ _ ho,hd⟩
  ·obtain⟨v,hv⟩:=I3.cell y c (hcl y c e)
   exact⟨v,cell4 y c e v hv⟩
  ·show (none :: ye σ qD).length=(x :: names).length
   unfold ye
   simp [lenC]
 have st4:tn 0 h₁:=T.keep _ _ _ st2 fun b hb o e=>k3 b o (by rw[hs3h];exact Heap.get?_push_of_some _ e)
 have fpok:∀{H':Hp},(∀b∈fp,H' b=none)→∀b∈fp,yT (ya X sc x names fp s₃ (upd H2 s₂.heap.objs.size (.lst []))) [] H' b:=fun hn b hb=>
  ⟨hn b hb,(ok.WU b hb).1,ok.iC b hb,.inl hb,(ok.WU b hb).2,fun p hp=>absurd (show p∈([]:List (Addr × Obj)) from hp) (by simp)⟩
 have loop:∀s₄:Shared,s₄={ s₃ with heap:=h₁,toks:=s₃.toks + ([]:List (Str × Value)).length }→
   codeAny (model X.prog X.w) X.A (.compLoop (.ListComp elt [⟨.Name x px,iter,[],0⟩] sc pos) 0 (.ref it) (.ref s₂.heap.objs.size) (compEnvC sc (jz X.env sc.names []) s₃.heap.objs.size X.env))
    (RR (.ref s₂.heap.objs.size) s₃.heap.objs.size) s₄:=by
  rintro s₄ rfl
  refine iH (fun n s'=>∃i H',Inv (ya X sc x names fp s₃ (upd H2 s₂.heap.objs.size (.lst []))) [] (none :: ye σ qD) H' s'∧tn i s'.heap∧(∀b∈fp,H' b=none)∧W i n H') ?_ m0
   ⟨0,_,I4 _,st4,fun b hb=>(f3 b hb).1,w0⟩
  rintro n s5 ⟨i,H5,I5,st5,fr5,w5⟩
  rcases turn i n H5 w5 with ⟨stop,q⟩ | ⟨go,step⟩
  ·refine jO (T.done (ya X sc x names fp s₃ (upd H2 s₂.heap.objs.size (.lst []))) rfl rfl rfl hc i [] s5 _ H5 _ I5 (fpok fr5) st5 stop) fun r s6 ⟨hr,I6⟩=>?_
   subst hr
   obtain⟨m,hn,_⟩:=I6.loc
   have J6:Inv X pins σ H5 s6:=I3.iQ (ch:=fp) I6.os I6.base I6.jj I6.bare fun b hb=>⟨(f3 b hb).2.2.2.1,(f3 b hb).2.1,(f3 b hb).2.2.2.2.1,(f3 b hb).2.2.2.2.2⟩
   exact cont _ _ H5 s6 m J6 hn (I3.ag (H':=H5) (Nat.le_refl _) I6.free) q
  ·refine jO (T.item (ya X sc x names fp s₃ (upd H2 s₂.heap.objs.size (.lst []))) rfl rfl rfl hc i [] s5 _ H5 _ I5 (fpok fr5) st5 go) fun r s6 ⟨u,hr,h6⟩=>?_
   subst hr
   refine jO h6 fun _ s6' ⟨y,H6,I6,r6,y6,st6,fr6⟩=>?_
   have I6':=I6.pinned (fpok fr6) (T.obj _ _ st6)
   have own':(relabel sc X.env).names.lookup x=some .local:=lookup_relabel_local cs.own
   refine wpAny_mono (jr (X:=ya X sc x names fp s₃ (upd H2 s₂.heap.objs.size (.lst []))) (i:=0) (x:=x) (pos:=px) cs.nd rfl (.inl own') (.inr own') _ s6' _ H6 y u (fun σ' H'=>σ'=(none :: ye σ qD).set 0 (some y)∧H'=H6) I6' r6 ⟨rfl,rfl⟩)
    (fun _ s7 ⟨σ7,H7,I7,e7,e7'⟩=>?_) fun _ _ z=>False.elim z
   subst e7 e7'
   refine wpAny_mono (he fp s₃ _ _ s7 _ H7 _ I7 (step y H7 y6)) (fun v s8 ⟨vv,H8,I8,r8,ys,hD8,hz8,m',hm',w8⟩=>?_) fun _ _ z=>False.elim z
   refine wpAny_mono (uc (X:=ya X sc x names fp s₃ (upd H2 s₂.heap.objs.size (.lst []))) _ s8 _ H8 (.ref s₂.heap.objs.size) [vv] (.ref s₂.heap.objs.size) [v] (fun _ H'=>H'=upd H8 s₂.heap.objs.size (.lst (ys ++ [vv]))) I8 rfl (.cons r8 .nil)
    ⟨_,ys,vv,rfl,rfl,hD8,hz8,rfl⟩) (fun _ s9 ⟨_,H9,I9,_,e9⟩=>?_) fun _ _ z=>False.elim z
   subst e9
   refine⟨m',hm',i + 1,_,(I9.kX).weak ?_ ?_,T.keep _ _ _ st6 fun b hb o e=>(I9.pin (b,o) (List.mem_append_right _ (List.mem_append_right _ (va hb e)))).1,fun b hb=>?_,w8⟩
   ·simp
   ·intro j v' ej
    cases j with
    | zero=>simp at ej
    | succ j=>simpa using ej
   ·obtain⟨o,e,d⟩:=T.obj _ _ st6 b hb
    exact(I9.pin (b,o) (List.mem_append_right _ (List.mem_append_right _ (va hb e)))).2.1
 exact codeAny_compStart_list (loop _ (by rw[←hs3])) (T.self _ 0 _ _ _ st4 (loop _ (by rw[←hs3])))
theorem tJ {pins:List (Addr × Obj)} {σ:St} {H:Hp} {s:Shared} {osc:Scope} {N:List Str} {sc:Scope} {x:Str} {names:List Str} {qD:List Nat} (hos:X.env.scope=osc) (cs:bc osc N sc x names qD) (I:Inv X pins σ H s) :
  closureFor sc X.env=pure (jz X.env sc.names []):=
 mU fun y hy hk=>I.ok.has y.1 (.inl (by show X.env.scope.names.lookup y.1=_;rw[hos];exact cs.frees y hy hk))
theorem ee {osc:Scope} {N:List Str} {sc:Scope} {x:Str} {px pos:Pos} {elt iter:Expr} {names:List Str} {qD:List Nat} {wi:TI} {te:TE}
  (hc:X.calm=true) (hos:X.env.scope=osc) (hN:X.N=N) (cs:bc osc N sc x names qD) (hi:PI X (.Name x px) iter wi) (he:∀fp s₀ H₀,PE (ya X sc x names fp s₀ H₀) elt te)
  (hs:∀v,foldedSetIterable iter X.env v=pure v:=by intro _;rfl):PE X (.ListComp elt [⟨.Name x px,iter,[],0⟩] sc pos) (Wu qD wi te):=by
 intro pins s σ H Q I h
 rw[eval_ListComp]
 refine wpAny_comprehension_free (use:=none) rfl hs (tJ hos cs I) cs.kind cs.locs (jO (hi pins s σ H _ I h) fun xv s1 h1=>jO h1 fun itv s2 h2=>?_)
 obtain⟨it,fp,tn,J,H2,rfl,I2,T,st2,f2,hW⟩:=h2
 refine iB (Qd:=Q) (RR:=fun acc C=>compPost (model X.prog X.w) X.A X.xe none (EP X pins σ Q) acc C) hc hos hN cs he I2 T st2 f2 hW fun D C H5 s6 m I6 hn fC q=>?_
 refine⟨m,hn,fun h' sb=>?_⟩
 obtain⟨g0,g1,g2,g3,g4,g5⟩:=fC
 exact⟨.ref D,H5,I6.turned (t':=s6.toks) (it:=C) (fun b o hb e=>sb.extBut b o hb e) g0 g1 g3 g4 g5,rfl,q⟩
theorem oW {osc:Scope} {N:List Str} {sc:Scope} {x y:Str} {px py pos spos:Pos} {elt iter:Expr} {names:List Str} {qD:List Nat} {wi:TI} {te:TE} {i:Nat}
  (hc:X.calm=true) (hos:X.env.scope=osc) (hN:X.N=N) (nd:X.N.Nodup) (cs:bc osc N sc x names qD) (hi':X.N[i]?=some y) (hy:X.env.scope.names.lookup y=some .local) (hi:PI X (.Name x px) iter wi)
  (he:∀fp s₀ H₀,PE (ya X sc x names fp s₀ H₀) elt te) (hsw:swapsWith (.ListComp elt [⟨.Name x px,iter,[],0⟩] sc pos) (some (.Name y py)) spos.line X.env=pure true:=by rfl)
  (hs:∀v,foldedSetIterable iter X.env v=pure v:=by intro _;rfl):PS X (.Assign [.Name y py] (.ListComp elt [⟨.Name x px,iter,[],0⟩] sc pos) spos) (QA (Wu qD wi te) (jN i)):=by
 intro pins s σ H D I h
 rw[exec_Assign_Name_used _ _ _ _ hsw]
 refine wpAny_bind (wpAny_standAt (wpAny_bind ?_))
 show wpAny _ X.A (do let _ ←comprehension (.ListComp elt [⟨.Name x px,iter,[],0⟩] sc pos) sc X.env _ (newList []) false (eval iter X.env) (some (assign (.Name y py) X.env))) _ _ s
 refine wpAny_bind (wpAny_mono (wpAny_comprehension_free (use:=some (assign (.Name y py) X.env)) (Q:=fun _ s'=>SP X pins D .next s') rfl hs (tJ hos cs I) cs.kind cs.locs
  (jO (hi pins s σ H _ I h) fun xv s1 h1=>jO h1 fun itv s2 h2=>?_)) (fun _ s' hq=>wpAny_pure (wpAny_pure hq)) fun _ _ e=>e)
 obtain⟨it,fp,tn,J,H2,rfl,I2,T,st2,f2,hW⟩:=h2
 refine iB (Qd:=fun x H1=>jN i x σ H1 D.nx) (RR:=fun acc C=>compPost (model X.prog X.w) X.A X.xe (some (assign (.Name y py) X.env)) (fun _ s'=>SP X pins D .next s') acc C) hc hos hN cs he I2 T st2 f2 hW fun D' C H5 s6 m I6 hn fC q=>?_
 show wpAny _ X.A (assign (.Name y py) X.env (.ref D')) _ _ _
 obtain⟨oC,es,ep,eC,dC,rC⟩:=id hn
 obtain⟨g0,g1,g2,g3,g4,g5⟩:=id fC
 have I6p:Inv X (pins ++ [(C,oC)]) σ H5 s6:=I6.cG fun p hp=>(List.mem_append.mp hp).elim (fun z=>I6.pin p (List.mem_append_right _ z)) fun z=>by
  have e:p=(C,oC):=by simpa using z
  subst e
  exact⟨eC,g0,g1,g2,fun v z=>by rw[dC] at z;cases z⟩
 refine wpAny_assign_Name (gs I6p nd hi' (.inl hy) (v:=.ref D') rfl (fun s7 I7=>?_) (.inr hy))
 have e7:=(I7.pin (C,oC) (List.mem_append_right _ (List.mem_append_right _ (by simp)))).1
 refine⟨m,⟨oC,es,ep,e7,dC,rC⟩,fun h' sb=>?_⟩
 exact⟨_,H5,(I7.kX).turned (t':=s7.toks) (it:=C) (fun b o hb e=>sb.extBut b o hb e) g0 g1 g3 g4 g5,q⟩
end
noncomputable def Qg (J:It) (H:Hp) (xs:List V):Prop:=∀(i:Nat) (H':Hp),qp H H'→
 (i < xs.length→J.go i H')∧(∀y H3,J.WZ i H' y H3→H3=H'∧(i < xs.length→xs[i]?=some y))∧(i=xs.length→J.stop i H')
theorem ny {K:PySem.W.Frag} {a:Addr} {xs:List V} {H:Hp} (h:qM K H a xs):Qg (Y1 K a) H xs:=fun i H' s=>
 ⟨fun hi=>⟨xs,xs[i],s.seq h,by simp [hi]⟩,fun y H3 q=>⟨q.1,fun _=>q.2 xs (s.seq h)⟩,fun e=>⟨xs,s.seq h,Nat.le_of_eq e.symm⟩⟩
theorem aL {lo:Int} {n:Nat} {H:Hp}:Qg (VU lo n) H ((List.range n).map fun (i:Nat)=>V.int (lo + (i:Int))):=fun i H' s=>
 ⟨fun hi=>by show i < n;simpa using hi,fun y H3 q=>⟨q.1,fun hi=>by
  have hi':i < n:=by simpa using hi
  rw[q.2,List.getElem?_map,List.getElem?_range hi'];rfl⟩,fun e=>by
  have:i=n:=by simpa using e
  exact Nat.le_of_eq this.symm⟩
theorem XY {z:Str} {H:Hp}:Qg (HZ z) H (z.cps.toList.map fun c=>V.str ⟨#[c]⟩):=fun i H' s=>
 ⟨fun hi=>by simpa [HZ,Str.length] using hi,fun y H3 q=>⟨q.1,fun hi=>by
  obtain⟨_,c,hc,e⟩:=q
  rw[e,List.getElem?_map]
  have:z.cps.toList[i]?=some c:=by simpa using hc
  rw[this];rfl⟩,fun e=>by
  have:i=z.length:=by simpa [Str.length] using e
  exact this⟩
theorem rH {J:It} {H:Hp} {xs:List V} {qD:List Nat} {te:TE} {σ:St} {Q:VK} (hJ:Qg J H xs) (Pr:Nat→V→V→Prop) (hsz:xs.length≤sizeLine)
  (hs:∀(i:Nat) (y:V) (H':Hp) (Q':VK),xs[i]?=some y→qp H H'→(∀v H4,qp H' H4→Pr i y v→Q' v H4)→te (some y :: ye σ qD) H' Q')
  (hd:∀(D:Addr) (H':Hp) (ys:List V),qp H H'→H D=none→H' D=some (.lst ys)→ys.length=xs.length→(∀(i:Nat) (y v:V),xs[i]?=some y→ys[i]?=some v→Pr i y v)→Q (.ref D) H') :
  Zh J qD te σ Q H:=by
 intro D hD
 refine⟨fun i m H2=>m=xs.length - i∧i≤xs.length∧qp H H2∧∃ys,H2 D=some (.lst ys)∧ys.length=i∧∀(j:Nat) (y v:V),xs[j]?=some y→ys[j]?=some v→Pr j y v,
  ⟨xs.length,by simp,Nat.zero_le _,fun b o e=>by rw[qW (qx e hD)];exact e,[],qy,rfl,fun j y v _ e=>by simp at e⟩,?_⟩
 rintro i m H2 ⟨rfl,hi,s2,ys,hy,hl,hp⟩
 obtain⟨j1,j2,j3⟩:=hJ i H2 s2
 by_cases hlt:i < xs.length
 ·refine .inr ⟨j1 hlt,fun y H3 q=>?_⟩
  obtain⟨e3,ey⟩:=j2 y H3 q
  subst e3
  refine hs i y _ _ (ey hlt) s2 fun v H4 s4 pr=>⟨ys,s4 D _ hy,by omega,xs.length - (i + 1),by omega,rfl,hlt,fun b o e=>?_,ys ++ [v],qy,by simp [hl],fun j y' v' e1 e2=>?_⟩
  ·rw[qW (qx e hD)]
   exact s4 b o (s2 b o e)
  ·by_cases hj:j < ys.length
   ·rw[List.getElem?_append_left hj] at e2
    exact hp j y' v' e1 e2
   ·have hje:j=i:=by
     have:=(List.getElem?_eq_some_iff.mp e2).1
     simp at this;omega
    subst hje
    rw[List.getElem?_append_right (by omega),hl,Nat.sub_self] at e2
    rw[ey hlt] at e1
    cases e1
    have:v=v':=by simpa using e2
    subst this
    exact pr
 ·have e:i=xs.length:=by omega
  subst e
  exact .inl ⟨j3 rfl,hd D H2 ys s2 hD hy hl hp⟩
end L2
namespace L2
open PySem PySem.Spec PyProof.Rows
theorem qp.new {H H':Hp} {l:Addr} {o:HO} (e:qp H H') (hl:H' l=none):qp H (upd H' l o):=fun b u q=>by
 have q':=e b u q
 rw[qW (qx q' hl)]
 exact q'
theorem qp.put {H H':Hp} {l:Addr} {o:HO} (e:qp H H') (hl:H l=none):qp H (upd H' l o):=fun b u q=>by
 rw[qW (qx q hl)]
 exact e b u q
theorem qp.QY {H:Hp} {l:Addr} {o:HO} (hl:H l=none):qp H (upd H l o):=(qp.refl H).new hl
theorem nP:∀(ys:List V),(∀v∈ys,∃b,v=V.bl b)→∃bs:List Bool,ys=bs.map V.bl
 | [],_=>⟨[],rfl⟩
 | v :: r,h=>by
  obtain⟨b,rfl⟩:=h v List.mem_cons_self
  obtain⟨bs,rfl⟩:=nP r fun u hu=>h u (List.mem_cons_of_mem _ hu)
  exact⟨b :: bs,rfl⟩
theorem rT (sep:Str) (l:List Str):(Txt.join sep l).length≤(l.map (·.length)).sum + l.length * sep.length:=by
 have e:Txt.join sep l=Str.join sep l:=beq_iff_eq.mp (join_plain_closes sep l)
 rw[e]
 exact StrLaws.join_length_le sep l
theorem jD (a b:Str):(a ++ b).length=a.length + b.length:=by
 show (a.cps ++ b.cps).size=_
 rw[Array.size_append]
 rfl
noncomputable def WO:List Expr→Bool
 | []=>true
 | .Constant (.str _) _ _ :: r=>WO r
 | _=>false
noncomputable def Wc:List Expr→List V
 | []=>[]
 | .Constant (.str x) _ _ :: r=>V.str x :: Wc r
 | _=>[]
noncomputable def PJ (es:List Expr):TA:=fun _ H Q=>Q (Wc es) H
theorem pY {es:List Expr} {p:Pos} {t:Option Expr} {l:Nat} {env:Env}:swapsWith (.List es p) t l env=pure false:=rfl
theorem qv {n:Nat} (h:n≤1000):n≤sizeLine:=Nat.le_of_lt (mY h)
end L2
namespace L2
open PySem PySem.Spec PyProof.Rows
section
variable {X:Cx} {CX:rY} {k:Nat} {f:Addr} {fd:FuncData} {ps:List Str} {sp:Sp} {dvs:List V} {ds:List Value} {E:XK} {m:Str} {pos apos:Pos} {e o:Expr} {es:List Expr} {ta:TE} {t:TA}
theorem PS.join {st:Stmt} {t:TS} (h:PS X st t):PS X st (fun D σ H=>∃M:St→Hp→Prop,t { D with nx:=M } σ H∧∀σ' H',M σ' H'→D.nx σ' H'):=by
 intro pins s σ H D I ⟨M,q,hM⟩
 refine jO (h pins s σ H _ I q) fun fl s' r=>?_
 cases fl with
 | next=>obtain⟨σ',H',I',r⟩:=r;exact⟨σ',H',I',hM _ _ r⟩
 | brk=>exact r
 | cont=>exact r
 | ret u=>exact r
theorem PE.cut {e:Expr} {t:TE} (h:PE X e t):PE X e (fun σ H Q=>∃M:VK,t σ H M∧∀v H',M v H'→Q v H'):=by
 intro pins s σ H Q I ⟨M,q,hM⟩
 exact jO (h pins s σ H _ I q) fun u s' ⟨v,H',I',r,z⟩=>⟨v,H',I',r,hM v H' z⟩
noncomputable def BL (K:PySem.W.Frag) (f:Addr) (m:Str) (sp:Sp) (dvs:List V) (E:XK) (ta:TE) (t:TA):TE:=fun σ H Q=>ta σ H fun x H1=>∃a C dx fs,x=.ref a∧H1 a=some (.ins C dx fs)∧uS K C∧Meth K C m f∧fs.lookup m=none∧
 t σ H1 fun vs H2=>sp (x :: (vs ++ dvs)) H2 Q E
end
noncomputable def asc (x:Str):Prop:=∀c∈x.cps.toList,c < 128
theorem asc.ok {x:Str} (h:asc x):PyData.strOk x=true:=by
 unfold PyData.strOk
 rw[Array.all_eq_true]
 intro i hi
 have:=h x.cps[i] (by simp)
 exact decide_eq_true (by omega)
theorem cps_append (a b:Str):(a ++ b).cps.toList=a.cps.toList ++ b.cps.toList:=by
 show (a.cps ++ b.cps).toList=_
 simp
theorem join_eq (sep:Str) (l:List Str):Txt.join sep l=Str.join sep l:=beq_iff_eq.mp (join_plain_closes sep l)
theorem mJ {x:Str} {xs:List Str}:ZX (.str x) (xs.map V.str)=decide (x∈xs):=by
 induction xs with
 | nil=>rfl
 | cons y r ih=>
  unfold ZX at ih ⊢
  rw[List.map_cons,List.any_cons,ih]
  have:KU (.str y) (.str x)=decide (x=y):=by
   show (y == x)=_
   by_cases h:x=y
   ·subst h;simp
   ·rw[decide_eq_false h];exact beq_eq_false_iff_ne.mpr fun q=>h q.symm
  rw[this]
  by_cases h:x=y<;>by_cases h':x∈r<;>simp [h,h']
end L2
namespace L2
open PySem PySem.Spec PyProof.Rows
noncomputable def Nw (H:Hp) (o:HO) (Q:VK):Prop:=∀p H',qp H H'→H p=none→H' p=some o→Q (.ref p) H'
theorem Nw.el {H:Hp} {o:HO} {Q:VK} (h:Nw H o Q) (p:Addr) (hp:H p=none):Q (.ref p) (upd H p o):=h p _ (qp.QY hp) hp qy
noncomputable def Keeps (l:Addr) (H H':Hp):Prop:=∀b,b≠l→H' b=H b
theorem Keeps.upd {H:Hp} {l:Addr} {o:HO}:Keeps l H (upd H l o):=fun _ h=>qW h
noncomputable def Ch (H:Hp) (l:Addr) (o:HO) (Q:Hp→Prop):Prop:=∀H',Keeps l H H'→H' l=some o→Q H'
theorem Ch.el {H:Hp} {l:Addr} {o:HO} {Q:Hp→Prop} (h:Ch H l o Q):Q (L2.upd H l o):=h _ Keeps.upd qy
theorem Keeps.put {H H1 H2:Hp} {l:Addr} (k:Keeps l H1 H2) (s:qp H H1) (n:H l=none):qp H H2:=fun b o e=>by
 rw[k b (qx e n)]
 exact s b o e
theorem Keeps.look {H1 H2:Hp} {l b:Addr} {o:HO} (k:Keeps l H1 H2) (e:H1 b=some o) (n:b≠l):H2 b=some o:=by rw[k b n];exact e
noncomputable def Fx (H H':Hp):Prop:=(∀b xs,H b=some (.tup xs)→H' b=some (.tup xs))∧∀b C dx fs,H b=some (.ins C dx fs)→H' b=some (.ins C dx fs)
section
variable {X:Cx}
theorem PE.mono {e:Expr} {t t':TE} (h:PE X e t) (m:∀σ H Q,t' σ H Q→t σ H Q):PE X e t':=fun pins s σ H Q I q=>h pins s σ H Q I (m σ H Q q)
theorem vQ.mono {f:Value} {r r':List V→Hp→VK→Prop} (h:vQ X f r) (m:∀xs H Q,r' xs H Q→r xs H Q):vQ X f r':=fun pins s σ H xs us Q I rv q=>h pins s σ H xs us Q I rv (m xs H Q q)
theorem Qw.mono {id:String} {r r':V→List V→Hp→VK→Prop} (h:Qw X id r) (m:∀x xs H Q,r' x xs H Q→r x xs H Q):Qw X id r':=fun pins s σ H x vs v us Q I rx rv q=>h pins s σ H x vs v us Q I rx rv (m x vs H Q q)
theorem dw.mono {f:Value→Value→Sem Value} {r r':R2} (h:dw X f r) (m:∀x y H Q,r' x y H Q→r x y H Q):dw X f r':=fun pins s σ H x y v u Q I rx ry q=>h pins s σ H x y v u Q I rx ry (m x y H Q q)
theorem WX.mono {r r':V→Option Int→Option Int→Hp→VK→Prop} (h:WX X r) (m:∀x l u H Q,r' x l u H Q→r x l u H Q):WX X r':=fun pins s σ H x v vl vu lo hi sl Q I rx hs pl pu q=>h pins s σ H x v vl vu lo hi sl Q I rx hs pl pu (m x lo hi H Q q)
noncomputable def Bf (t:TA):TE:=fun σ H Q=>t σ H fun xs H1=>xs.length≤sizeLine∧Nw H1 (.tup xs) Q
noncomputable def Bp (t:TA):TE:=fun σ H Q=>t σ H fun xs H1=>xs.length≤sizeLine∧Nw H1 (.lst xs) Q
theorem PA.cut {es:List Expr} {t:TA} (h:PA X es t):PA X es (fun σ H Q=>∃M:List V→Hp→Prop,t σ H M∧∀vs H',M vs H'→Q vs H'):=by
 intro pos pins s σ H Q I ⟨M,q,hM⟩
 exact jO (h pos pins s σ H _ I q) fun u s' ⟨v,H',I',r,z⟩=>⟨v,H',I',r,hM v H' z⟩
theorem vz {es:List Expr} {t:TA} {pos:Pos} {x1} (h:PA X es t):PE X (.Tuple es x1 pos) (Bf t):=(Ym h.cut).mono fun _ _ _ q=>⟨_,q,fun _ _ q=>⟨q.1,q.2.el⟩⟩
theorem jb {es:List Expr} {t:TA} {pos:Pos} (h:PA X es t):PE X (.List es pos) (Bp t):=(Yp h.cut).mono fun _ _ _ q=>⟨_,q,fun _ _ q=>⟨q.1,q.2.el⟩⟩
theorem aX:vQ X (.type "list") (fun xs H Q=>∃p ys,xs=[.ref p]∧(qM X.K H p ys∨g9 X.K H p ys)∧Nw H (.lst ys) Q):=
 nC.mono fun _ _ _ ⟨p,ys,a,b,c⟩=>⟨p,ys,a,b,c.el⟩
theorem Vk:WX X (fun x lo hi H Q=>∃a xs,x=.ref a∧qM X.K H a xs∧Nw H (.lst (uv xs lo hi)) Q):=
 Ve.mono fun _ _ _ _ _ ⟨a,xs,e,b,c⟩=>⟨a,xs,e,b,c.el⟩
theorem dZ:dw X (binaryOp .Add) (fun x y H Q=>∃l b xs zs,x=.ref l∧y=.ref b∧H l=some (.lst xs)∧H b=some (.lst zs)∧xs.length + zs.length≤sizeLine∧Nw H (.lst (xs ++ zs)) Q):=
 Yg.mono fun _ _ _ _ ⟨l,b,xs,zs,a,c,d,e,f,g⟩=>⟨l,b,xs,zs,a,c,d,e,f,g.el⟩
theorem kj:Qw X "list.append" (fun x vs H Q=>∃l xs y,x=.ref l∧vs=[y]∧H l=some (.lst xs)∧xs.length < sizeLine∧Ch H l (.lst (xs ++ [y])) (Q .non)):=
 Qw.mono uc fun _ _ _ _ ⟨l,xs,y,a,b,c,d,e⟩=>⟨l,xs,y,a,b,c,d,e.el⟩
theorem J8:Qw X "list.pop" (fun x vs H Q=>∃l xs y,x=.ref l∧vs=[]∧H l=some (.lst xs)∧xs[xs.length - 1]?=some y∧Ch H l (.lst xs.dropLast) (Q y)):=
 Qw.mono Yq fun _ _ _ _ ⟨l,xs,y,a,b,c,d,e⟩=>⟨l,xs,y,a,b,c,d,e.el⟩
theorem tN:Ko X (fun o i v H Q=>∃p xs k j,o=.ref p∧i=.int k∧H p=some (.lst xs)∧Q7 xs.length k=some j∧Ch H p (.lst (xs.set j v)) Q):=by
 intro pins s σ H o i v
 have h:=@set_list X pins s σ H o i v
 intros
 rename_i q
 exact h _ _ _ _ ‹_› ‹_› ‹_› ‹_› (by obtain⟨p,xs,k,j,a,b,c,d,e⟩:=q;exact⟨p,xs,k,j,a,b,c,d,e.el⟩)
end
structure ja (P:Program) (w:World) (K:PySem.W.Frag) (mg:Str→Option Value) (base:Heap) (CX:rY) (k:Nat) (C:Addr) (m:Str) (sp:Sp):Prop where
 ex:∃f fd ps,Meth K C m f∧qr P w K mg base CX k f fd ps sp∧Binds K fd ps []
theorem ja.mk' {P:Program} {w:World} {K:PySem.W.Frag} {mg:Str→Option Value} {base:Heap} {CX:rY} {j k:Nat} {C f:Addr} {m:Str} {sp:Sp} {fd:FuncData} {ps:List Str} (h1:Meth K C m f) (h2:qr P w K mg base CX j f fd ps sp) (h3:Binds K fd ps []) (h:j≤k) :
  ja P w K mg base CX k C m sp:=⟨f,fd,ps,h1,h2.mono h,h3⟩
noncomputable def ij (X:Cx) (CX:rY) (k:Nat) (m:Str) (E:XK) (ta:TE) (t:TA):TE:=fun σ H Q=>ta σ H fun x H1=>∃a C dx fs,x=.ref a∧H1 a=some (.ins C dx fs)∧uS X.K C∧fs.lookup m=none∧
 ∃sp,ja X.prog X.w X.K X.mg X.base CX k C m sp∧t σ H1 fun vs H2=>sp (x :: vs) H2 Q E
section
variable {X:Cx} {k:Nat} {m:Str} {pos apos:Pos} {e o:Expr} {es:List Expr} {ta:TE} {t:TA}
theorem vp {pl:Sem Bool} (hr:kn k X.A) (he:PE X o ta) (ha:PA X (e :: es) t)
  (hst:starEach (e :: es) X.env=(false,eval e X.env) :: starEach es X.env:=by rfl) (hpl:(backTo pos (starEach es X.env)).any (·.1)=false:=by rfl)
  (ht:eval (.Call (.Attribute o m apos) (e :: es) [] pos) X.env=(do
   let ov ←eval o X.env
   standAt apos.atName
   let (f,first) ←holding [ov] (getMethod ov m pl)
   callWith pos f first (backTo pos (starEach (e :: es) X.env)) (backToKw pos (keywordEach [] X.env))):=by rfl) :
  PE X (.Call (.Attribute o m apos) (e :: es) [] pos) (ij X jy k m E0 ta t):=by
 intro pins s σ H Q I h
 refine PySem.W.methodCall_KW (pl:=pl) (jO (he pins s σ H _ I h) fun u s1 ⟨x,H1,I1,rx,a,C,dx,fs,ex,ea,c,l,sp,M,q⟩=>?_) ht
 subst ex
 obtain⟨f,fd,ps,hm,F,hb⟩:=M.ex
 obtain rfl:u=Value.ref a:=rx
 refine gj I1 ea c hm l ?_
 refine PySem.W.callWith_K (first:=[.ref a]) (h₀:=X.base) I.ok.mod.ZY hm.kp (jO (ha pos pins s1 σ H1 _ I1 q) fun us s2 ⟨vs,H2,I2,r,q2⟩=>⟨I2.gJ,?_⟩) hst hpl
 exact lT (us:=.ref a :: us) (vs:=.ref a :: vs) F hr hb .nil qK I2 (.cons rfl r) (by rw[List.append_nil];exact q2)
theorem wN {pl:Sem Bool} (hr:kn k X.A) (he:PE X o ta)
  (ht:eval (.Call (.Attribute o m apos) [] [] pos) X.env=(do
   let ov ←eval o X.env
   standAt apos.atName
   let (f,first) ←holding [ov] (getMethod ov m pl)
   callWith pos f first (backTo pos (starEach [] X.env)) (backToKw pos (keywordEach [] X.env))):=by rfl) :
  PE X (.Call (.Attribute o m apos) [] [] pos) (ij X jy k m E0 ta YC):=by
 intro pins s σ H Q I h
 refine PySem.W.methodCall_KW (pl:=pl) (jO (he pins s σ H _ I h) fun u s1 ⟨x,H1,I1,rx,a,C,dx,fs,ex,ea,c,l,sp,M,q⟩=>?_) ht
 subst ex
 obtain⟨f,fd,ps,hm,F,hb⟩:=M.ex
 obtain rfl:u=Value.ref a:=rx
 refine gj I1 ea c hm l ?_
 exact PySem.W.callWith_K0 (first:=[.ref a]) I1.gJ hm.kp (lT (us:=[.ref a]) (vs:=[.ref a]) F hr hb .nil qK I1 (.cons rfl .nil) q)
end
theorem WV {α:Type} [Inhabited α] {xs:List α} {i:Int} (h0:0≤i) (h1:i < xs.length):uj xs i=some (xs.getD i.toNat default):=by
 have hj:i.toNat < xs.length:=by omega
 have e:=mj (xs:=xs) (j:=i.toNat) (v:=xs[i.toNat]) (by simp [hj])
 rw[Int.toNat_of_nonneg h0] at e
 rw[e,List.getD_eq_getElem?_getD,List.getElem?_eq_getElem hj]
 rfl
theorem Zp {α:Type} {f:α→V} {xs:List α} {i:Int} (d:α) (h0:0≤i) (h1:i < xs.length):uj (xs.map f) i=some (f (xs.getD i.toNat d)):=by
 have hj:i.toNat < (xs.map f).length:=by rw[List.length_map];omega
 have e:=mj (xs:=xs.map f) (j:=i.toNat) (v:=(xs.map f)[i.toNat]) (List.getElem?_eq_getElem hj)
 rw[Int.toNat_of_nonneg h0] at e
 rw[e,List.getElem_map,List.getD_eq_getElem?_getD,List.getElem?_eq_getElem (by omega)]
 rfl
theorem bu {xs:List Int} {i:Int} (h0:0≤i) (h1:i < xs.length):uj (xs.map V.int) i=some (.int (xs.getD i.toNat 0)):=Zp 0 h0 h1
theorem yI {xs:List Str} {i:Int} (h0:0≤i) (h1:i < xs.length):uj (xs.map V.str) i=some (.str (xs.getD i.toNat "")):=Zp (f:=V.str) ("" : Str) h0 h1
theorem JP {n:Nat} {i:Int} (h0:0≤i) (h1:i < n):Q7 n i=some i.toNat:=by
 unfold Q7;rw[if_pos h0,if_pos h1]
theorem rD {α:Type} {P:α→Prop} {xs:List α} {j:Nat} (d:α) (h:∀x∈xs,P x) (hj:j < xs.length):P (xs.getD j d):=by
 rw[List.getD_eq_getElem?_getD,List.getElem?_eq_getElem hj]
 exact h _ (List.getElem_mem hj)
theorem Jg {z:Str} {i:Int} (h0:0≤i) (h1:i < z.length):uj z.cps.toList i=some (z.cps.toList.getD i.toNat 0):=WV h0 (by simpa [Str.length] using h1)
theorem gE {a b:Str} (h:a.cps.toList=b.cps.toList):a=b:=by
 cases a;cases b
 simp only at h
 rw[Array.toList_inj.mp h]
theorem iT (s x y:Str) (r:List Str):Str.join s (x :: y :: r)=x ++ s ++ Str.join s (y :: r):=rfl
theorem join_one (s x:Str):Str.join s [x]=x:=rfl
end L2
namespace L2
open PySem PySem.Spec PyProof.Rows
theorem WY {x y:Str} {n m:Nat} (hx:x.length≤n) (hy:y.length≤m) (h:n + m≤1000):x.length + y.length≤sizeLine:=qv (by omega)
theorem KJ {x y:Str} {n m:Nat} (hx:x.length≤n) (hy:y.length≤m):(x ++ y).length≤n + m:=by rw[jD];omega
theorem JR (x:Str):x.length≤x.length:=Nat.le_refl _
end L2
namespace L2
open PySem PySem.Spec PyProof.Rows
noncomputable def Qv (K:PySem.W.Frag) (H:Hp) (x:V) (f:Str) (v:V):Prop:=∃a C dx fs,x=.ref a∧H a=some (.ins C dx fs)∧uS K C∧qo K C f∧fs.lookup f=some v
noncomputable def Bb (K:PySem.W.Frag) (ta:TE) (f:Str):TE:=fun σ H Q=>ta σ H fun x H1=>∃v,Qv K H1 x f v∧Q v H1
theorem jh {X:Cx} {K:PySem.W.Frag} (hK:X.K=K) {e:Expr} {ta:TE} {f:Str} {pos:Pos} (he:PE X e ta) (hb:attributeBase e f X.env (eval e X.env)=eval e X.env):PE X (.Attribute e f pos) (Bb K ta f):=by
 subst hK
 refine(Yb he.cut hb).mono fun σ H Q q=>⟨_,q,fun x H1 z=>?_⟩
 obtain⟨v,⟨a,C,dx,fs,h1,h2,h3,h4,h5⟩,q⟩:=z
 exact⟨a,C,dx,fs,v,h1,h2,h3,h4,h5,q⟩
theorem d9 (K:PySem.W.Frag) (t:Value):PySem.W.kitOne K t t=some true:=by
 unfold PySem.W.kitOne
 rw[if_pos (by simp)]
end L2
namespace L2
open PySem PySem.Spec PyProof.Rows
structure FU (K:PySem.W.Frag) (C:Addr):Prop where
 makes:PySem.W.makesIn K C=true
 init:PySem.W.findIn K (.ref C) "__init__" = some (some (.builtin "object.__init__"))
 kp:PySem.W.keepIn K (.ref C)=true
section
variable {X:Cx} {C:Addr} {x:Str} {p pos:Pos}
end
end L2
namespace L2
open PySem PySem.Spec PyProof.Rows
theorem Xk {n:Int} (h0:0≤n) (h1:n≤10 ^ 20):(Str.ofString (toString n)).length≤21∧1≤(Str.ofString (toString n)).length∧asc (Str.ofString (toString n)):=by
 obtain⟨m,rfl⟩:=Int.eq_ofNat_of_zero_le h0
 have e:=PySem.W.KIN.signs_num m
 have hl:(Str.ofString (toString ((m:Nat):Int))).length=(Nat.toDigits 10 m).length:=by
  have:=congrArg List.length e
  rw[List.length_map] at this
  rw[←this]
  simp [Str.length]
 refine⟨?_,?_,fun c hc=>?_⟩
 ·rw[hl]
  refine digits10_le (by decide) ?_
  have:(m:Int) < 10 ^ 21:=by omega
  exact_mod_cast this
 ·rw[hl];exact toDigits_len_ge 10 m
 ·rw[e] at hc
  obtain⟨ch,hch,rfl⟩:=List.mem_map.mp hc
  have r:=PyProof.Rows.digit_range (Nat.isDigit_of_mem_toDigits (by decide) (by decide) hch)
  omega
theorem JJ (xs ys:List Str):PyData.eqv (.list (xs.map PyData.str)) (.list (ys.map PyData.str))=decide (xs=ys):=by
 simp only[PyData.eqv,uV]
end L2
namespace L2
open PySem PySem.Spec PyProof.Rows
theorem GX {H H':Hp} {b:Addr} {o:HO} (e:H b=some o) (s:qp H H'):H' b=some o:=s b o e
theorem YK {K:PySem.W.Frag} {H H':Hp} {a:Addr} {xs:List V} (h:qM K H a xs) (s:qp H H'):qM K H' a xs:=s.seq h
end L2
namespace L2
open PySem PySem.Spec PyProof.Rows
end L2
namespace L2
open PySem PySem.Spec PyProof.Rows
section
variable {X:Cx} {K:PySem.W.Frag}
theorem cW {es:List Expr} {k:Nat} {t:VR} {n:Nat} {pos:Pos} (hK:X.K=K) (hc:X.calm=true) (h:Y3 X es t)
  (hn:(assignEach es X.env).length=n:=by rfl) (hst:(assignEach es X.env).findIdx? (·.1)=none:=by rfl):PG X (.Tuple es k pos) (WT K n t):=hK▸Yc hc h hn hst
theorem qw (hK:X.K=K):Y2 X (Yo K):=hK▸KO
theorem kM (hK:X.K=K):Y2 X (Yi K):=hK▸WI
theorem xA (hK:X.K=K):WX X (fun x lo hi H Q=>∃a xs,x=.ref a∧qM K H a xs∧Nw H (.lst (uv xs lo hi)) Q):=hK▸Vk
theorem mK (hK:X.K=K):dw X (compareOp .NotIn) (Pp K true):=hK▸oJ
theorem oQ (hK:X.K=K) (hu:X.A.units + 64 < cLine):dw X (compareOp .Eq) (G0 K false):=hK▸Yh hu
theorem qN (hK:X.K=K):vQ X (.builtin "len") (fun xs H Q=>∃p ys,xs=[.ref p]∧(qM K H p ys∨g9 K H p ys)∧Q (.int ys.length) H):=hK▸nD
theorem fX (hK:X.K=K):vQ X (.type "list") (fun xs H Q=>∃p ys,xs=[.ref p]∧(qM K H p ys∨g9 K H p ys)∧Nw H (.lst ys) Q):=hK▸aX
theorem nF (hK:X.K=K):vQ X (.builtin "isinstance") (fun xs H Q=>∃x c t b,xs=[x,c]∧((∃n,c=.ty n)∨∃a,c=.ref a)∧pN K H x t∧PySem.W.kitOne K t (Ju c)=some b∧Q (.bl b) H):=hK▸iJ
theorem cx (hK:X.K=K):Qw X "str.join" (rJoin K):=hK▸K7
theorem vm {tg l:Expr} {tl:TE} (hK:X.K=K) (hl:PE X l tl):PI X tg l (V0 K tl):=hK▸Vp hl
end
end L2
namespace L2
open PySem PySem.Spec PyProof.Rows
structure bD (osc:Scope) (N:List Str) (sc:Scope) (xs names:List Str) (qD:List Nat):Prop where
 kind:sc.kind=.function
 lY:∀y∈sc.names,y.2≠.cell
 locs:∀y∈sc.names,y.2=.local→sc.names.lookup y.1=some .local
 frees:∀y∈sc.names,y.2=.free→osc.names.lookup y.1=some .cell
 own:∀x∈xs,sc.names.lookup x=some .local
 qD:names.map some=qD.map fun i=>N[i]?
 au:∀y∈names,sc.names.lookup y=some .free
 nd:(xs ++ names).Nodup
noncomputable def xP (X:Cx) (sc:Scope) (xs names:List Str) (fp:List Addr) (s₀:Shared) (H₀:Hp):Cx where
 prog:=X.prog
 w:=X.w
 K:=X.K
 mg:=X.mg
 base:=X.base
 A:=X.A
 N:=xs ++ names
 s₀:=s₀
 H₀:=H₀
 env:=compEnvC sc (jz X.env sc.names []) s₀.heap.objs.size X.env
 outer:=X.stack
 stack:=X.stack
 ex:=fp
 fn:=fun _=>false
 calm:=X.calm
 pn:=[]
 xe:=fun _ _=>False
theorem iI {X:Cx} {sc:Scope} {xs names:List Str} {fp:List Addr} {s₀:Shared} {H₀:Hp} {x:Str} (h:sc.names.lookup x=some .local):(xP X sc xs names fp s₀ H₀).env.scope.names.lookup x=some .local:=lookup_relabel_local h
noncomputable def HN (X:Cx) (ifs:List Expr) (t:TT):Prop:=
 ∀(pins:List (Addr × Obj)) (s:Shared) (σ:St) (H:Hp) (Q:Bool→Hp→Prop),Inv X pins σ H s→t σ H Q→
  wpAny (model X.prog X.w) X.A (forIn ifs true fun c r=>if r=true then do let ok ←isTrue c X.env (eval c X.env);pure (ForInStep.yield ok) else pure (ForInStep.yield r)) (TP X pins σ Q) X.xe s
noncomputable def VY:TT:=fun _ H Q=>Q true H
theorem Z1 {X:Cx}:HN X [] VY:=fun _ _ _ H _ I q=>wpAny_tests_nil ⟨H,I,q⟩
noncomputable def ib (J:It) (n:Nat) (qD:List Nat) (g:TG) (tt:TT) (te:TE) (σ:St) (Q:VK) (H1:Hp):Prop:=∀D,H1 D=none→∃W:Nat→Nat→St→Hp→Prop,(∃m,W 0 m (List.replicate n none ++ ye σ qD) (upd H1 D (.lst [])))∧∀i m σ1 H2,W i m σ1 H2→
 (J.stop i H2∧Q (.ref D) H2)∨(J.go i H2∧∀y H3,J.WZ i H2 y H3→g y σ1 H3 fun σ2 H4=>tt σ2 H4 fun b H5=>if b=true then te σ2 H5 fun v H6=>∃ys,H6 D=some (.lst ys)∧ys.length < sizeLine∧∃m',m' < m∧W (i + 1) m' σ2 (upd H6 D (.lst (ys ++ [v])))
  else ∃m',m' < m∧W (i + 1) m' σ2 H5)
noncomputable def YF (n:Nat) (qD:List Nat) (wi:TI) (g:TG) (tt:TT) (te:TE):TE:=fun σ H Q=>wi σ H fun J H1=>ib J n qD g tt te σ Q H1
section
variable {prog:Program} {w:World} {A:Around} {R:Result→Shared→Prop} {s:Shared}
theorem nR {el tg src : Expr} {ifs : List Expr} {scope : Scope} {pos : Pos} {it acc : Value} {env : Env} (I : Nat → Shared → Prop)
    (turn : ∀ n s, I n s → Noted prog w A env R (pyNext it) (fun r s1 => match r with
      | none => R (.ok .next) s1
      | some v => Noted prog w A env R (letOwnedTupleGo tg it v) (fun _ => Noted prog w A env R (assign tg env v) fun _ => Noted prog w A env R (forIn ifs true (testB env)) fun ok s4 =>
        if ok = true then Noted prog w A env R (eval el env) (fun x => Noted prog w A env R (call (.builtin "list.append") [acc, x]) fun _ s6 => ∃ m, m < n ∧ I m s6) s4 else ∃ m, m < n ∧ I m s4) s1) s) (n : Nat) (h : I n s) :
    codeAny (model prog w) A (.compLoop (.ListComp el [⟨tg, src, ifs, 0⟩] scope pos) 0 it acc env) R s := by
  refine codeAny_loop rfl I (fun k s1 hI => (?_ : wpAny _ _ (Sem.onRaise _ _) _ _ _)) n h
  refine wpAny_noted (compTurn_list .. ▸ wpAny_bind (wpAny_standAt (sq2 (turn k s1 hI) fun r s2 hr => ?_)))
  cases r
  · exact wpAny_pure hr
  · exact sq2 hr fun _ _ a => sq2 a fun _ _ b => sq2 b fun ok _ c => by
      cases ok
      · exact wpAny_pure ⟨rfl, c⟩
      · exact sq2 (sq2 c fun _ _ d => sq2 d fun _ _ e => wpAny_pure e) fun _ _ e => wpAny_pure ⟨rfl, e⟩
end
section
variable {X:Cx}
theorem KY {pins:List (Addr × Obj)} {σ:St} {H:Hp} {s:Shared} {osc:Scope} {N:List Str} {sc:Scope} {xs names:List Str} {qD:List Nat} {fp:List Addr}
  (hos:X.env.scope=osc) (cs:bD osc N sc xs names qD) (I:Inv X pins σ H s) (hf:∀b∈fp,yT X pins H b) (hlt:∀b∈fp,b < s.heap.objs.size):(xP X sc xs names fp s H).Ok:=by
 subst hos
 have cl:=vX (env:=X.env) sc.names [] (fun z c e=>by simp at e)
 have hcl:∀y c,(jz X.env sc.names []).lookup y=some c→X.env.cells.lookup y=some c:=fun y c e=>by
  have e1:=cl.1 y c e
  have hm:(y,NameKind.free)∈sc.names:=by
   by_cases q:(y,NameKind.free)∈sc.names
   ·exact q
   ·have:=(cl.2 y).mpr ⟨rfl,q⟩
    rw[this] at e;cases e
  obtain⟨c',hc'⟩:=I.ok.has y (.inl (cs.frees _ hm rfl))
  rw[hc'] at e1 ⊢
  rw[e1];rfl
 refine⟨I.ok.mod,?_,I.ok.glob,I.ok.blt,Nat.le_refl _,fun y z c h1 h2=>I.ok.inj y z c (hcl y c h1) (hcl z c h2),fun y hy=>?_,fun y c h=>?_,I.ok.hd,I.ok.frames,.inl rfl,fun b hb=>⟨?_,fun y c h=>?_⟩,
  I.bs,Nat.le_trans I.ok.Qp I.sz,fun b o e hb=>?_,fun b hb z=>?_,I.stack,I.mG⟩
 ·exact cs.kind
 ·have hy':(relabel sc X.env).names.lookup y=some .cell∨(relabel sc X.env).names.lookup y=some .free:=hy
  have key:sc.names.lookup y=some .free:=by
   rw[kZ] at hy'
   cases q:sc.names.lookup y with
   | none=>rw[q] at hy';simp at hy'
   | some k=>
    rw[q] at hy'
    have hm:=PySem.mem_of_lookup q
    have hnc:=cs.lY _ hm
    by_cases hk:k=.free
    ·rw[hk]
    ·have e:(if (k == NameKind.free && X.env.scope.kind == .function && X.env.kindOf y == some .cell)=true then NameKind.cell else k)=k:=if_neg (by simp [hk])
     rw[Option.map_some,e] at hy'
     rcases hy' with z | z
     ·exact absurd (Option.some.inj z) hnc
     ·exact absurd (Option.some.inj z) hk
  have hm:=PySem.mem_of_lookup key
  cases q:(jz X.env sc.names []).lookup y with
  | some c=>exact⟨c,q⟩
  | none=>exact absurd hm ((cl.2 y).mp q).2
 ·exact absurd (show false=true from h) (by simp)
 ·exact Nat.ne_of_lt (hlt b hb)
 ·exact(hf b hb).2.2.2.2.1 y c (hcl y c h)
 ·rcases(hf b hb).2.2.2.1 with z | z
  ·exact I.ok.aV b o e z
  ·exact absurd (Nat.lt_of_lt_of_le (Heap.lt_size e) (Nat.le_trans I.ok.Qp z)) (Nat.lt_irrefl _)
 ·rcases List.mem_cons.mp (I.sf b z) with q | q
  ·exact(hf b hb).2.1 q
  ·exact(hf b hb).2.2.1 q
theorem Qr {pins:List (Addr × Obj)} {σ:St} {s₂:Shared} {osc:Scope} {N:List Str} {sc:Scope} {pos:Pos} {elt iter tg:Expr} {ifs:List Expr} {xs names:List Str} {qD:List Nat} {g:TG} {tt:TT} {te:TE} {E:Value→Shared→Prop}
  {RR:Value→Addr→Result→Shared→Prop} {H2:Hp} {it:Addr} {fp:List Addr} {tn:Nat→Heap→Prop} {J:It} {Qd:V→Hp→Prop}
  (hc:X.calm=true) (hos:X.env.scope=osc) (hN:X.N=N) (cs:bD osc N sc xs names qD) (hg:∀fp s₀ H₀,PG (xP X sc xs names fp s₀ H₀) tg g) (ht:∀fp s₀ H₀,HN (xP X sc xs names fp s₀ H₀) ifs tt) (he:∀fp s₀ H₀,PE (xP X sc xs names fp s₀ H₀) elt te)
  (I2:Inv X pins σ H2 s₂) (T:Turn X.prog X.w X.K tg J fp it tn) (st2:tn 0 s₂.heap) (f2:∀b∈fp,yT X pins H2 b)
  (hW:ib J xs.length qD g tt te σ Qd H2)
  (cont:∀D C H5 s6 m,Inv X pins σ H5 s6→s6.heap.Ns C m→yT X pins H5 C→Qd (.ref D) H5→RR (.ref D) C (.ok .next) s6) :
  wpAny (model X.prog X.w) X.A (newList []) (fun acc s₃=>wpAny (model X.prog X.w) X.A (newFunctionEnv sc X.env.globals (jz X.env sc.names []) [] X.env.qual none .none (some X.env)) (fun cenv s₄=>
   codeAny (model X.prog X.w) X.A (.compStart (.ListComp elt [⟨tg,iter,ifs,0⟩] sc pos) 0 (.ref it) acc { cenv with scope:=relabel sc X.env }) (RR acc cenv.locals) s₄) E s₃) E s₂:=by
 subst hN
 refine wpAny_newObj_type (wpAny_newFunctionEnv cs.lY (by intro y hy;simp at hy) (fun h₁ hns₁ hsb₁=>?_) cs.kind)
 dsimp only at hns₁ hsb₁ ⊢
 have fp2:∀b∈fp,b < s₂.heap.objs.size:=fun b hb=>by
  obtain⟨o,e,_⟩:=T.obj _ _ st2 b hb
  exact Heap.lt_size e
 have I3:Inv X pins σ (upd H2 s₂.heap.objs.size (.lst [])) { s₂ with heap:=s₂.heap.push { cls:=.type "list",dict:=none,data:=.seq ([]:List Value).toArray } }:=I2.K5 (t':=s₂.toks) (its:=[]) .nil (Nat.zero_le _)
 obtain⟨W,⟨m0,w0⟩,turn⟩:=hW s₂.heap.objs.size I2.fresh
 have f3:∀b∈fp,yT X pins (upd H2 s₂.heap.objs.size (.lst [])) b:=fun b hb=>⟨by rw[qW (Nat.ne_of_lt (fp2 b hb))];exact(f2 b hb).1,(f2 b hb).2⟩
 have hD:∀b o,s₂.heap.get? b=some o→(s₂.heap.push { cls:=.type "list",dict:=none,data:=.seq ([]:List Value).toArray }).get? b=some o:=fun b o e=>Heap.get?_push_of_some _ e
 generalize hs3:({ s₂ with heap:=s₂.heap.push { cls:=.type "list",dict:=none,data:=.seq ([]:List Value).toArray } }:Shared)=s₃ at *
 have hs3h:s₃.heap=s₂.heap.push { cls:=.type "list",dict:=none,data:=.seq ([]:List Value).toArray }:=by rw[←hs3]
 rw[←hs3h] at hns₁ hsb₁ hD ⊢
 have Qn:∀b∈fp,b < s₃.heap.objs.size:=fun b hb=>by
  rw[hs3h,Heap.size_push];exact Nat.lt_succ_of_lt (fp2 b hb)
 have k3:∀b o,s₃.heap.get? b=some o→h₁.get? b=some o:=fun b o e=>hsb₁.extBut b o (Nat.ne_of_lt (Heap.lt_size e)) (Heap.get?_push_of_some _ e)
 have ok:=KY hos cs I3 f3 Qn
 have cl:=vX (env:=X.env) sc.names [] (fun z c e=>by simp at e)
 have hcl:∀y c,(jz X.env sc.names []).lookup y=some c→X.env.cells.lookup y=some c:=fun y c e=>by
  have e1:=cl.1 y c e
  have hm:(y,NameKind.free)∈sc.names:=by
   by_cases q:(y,NameKind.free)∈sc.names
   ·exact q
   ·have:=(cl.2 y).mpr ⟨rfl,q⟩
    rw[this] at e;cases e
  obtain⟨c',hc'⟩:=I3.ok.has y (.inl (by show X.env.scope.names.lookup y=_;rw[hos];exact cs.frees _ hm rfl))
  rw[hc'] at e1 ⊢
  rw[e1];rfl
 have cell4:∀y c,(jz X.env sc.names []).lookup y=some c→∀v,s₃.heap.IsCell c v→h₁.IsCell c v:=fun y c e v ⟨o,ho,hd⟩=>⟨o,k3 _ _ ho,hd⟩
 have lenC:qD.length=names.length:=by have:=congrArg List.length cs.qD;simpa using this.symm
 have I4:∀tk,Inv (xP X sc xs names fp s₃ (upd H2 s₂.heap.objs.size (.lst []))) [] (List.replicate xs.length none ++ ye σ qD) (upd H2 s₂.heap.objs.size (.lst [])) { s₃ with heap:=h₁,toks:=tk }:=fun tk=>by
  refine⟨ok,rfl,I3.bare,Un.kept k3,⟨_,hns₁,fun i y v e1 e2 e3=>?_⟩,fun y c e=>?_,I3.fresh,fun y c e=>I3.yX y c (hcl y c e),fun p hp=>absurd (show p∈([]:List (Addr × Obj)) from hp) (by simp),I3.jj.kept k3,?_⟩
  ·have hle:xs.length≤i:=by
    by_cases q:i < xs.length
    ·rw[List.getElem?_append_left (by rw[List.length_replicate];exact q),List.getElem?_replicate,if_pos q] at e2
     cases e2
    ·omega
   obtain⟨j,rfl⟩:∃j,i=xs.length + j:=⟨i - xs.length,by omega⟩
   ·have e1':names[j]?=some y:=by
     have e1z:(xs ++ names)[xs.length + j]?=some y:=e1
     rw[List.getElem?_append_right (Nat.le_add_right _ _),Nat.add_sub_cancel_left] at e1z
     exact e1z
    have e2':(ye σ qD)[j]?=some (some v):=by
     rw[List.getElem?_append_right (by rw[List.length_replicate];exact Nat.le_add_right _ _),List.length_replicate,Nat.add_sub_cancel_left] at e2
     exact e2
    unfold ye at e2'
    rw[List.getElem?_map] at e2'
    cases qc:qD[j]? with
    | none=>rw[qc] at e2';cases e2'
    | some i0=>
     rw[qc] at e2'
     have e2'':(σ[i0]?).join=some v:=by simpa using e2'
     have e3':σ[i0]?=some (some v):=by
      cases qs:σ[i0]? with
      | none=>rw[qs] at e2'';cases e2''
      | some o=>rw[qs] at e2'';rw[show o=some v from by simpa using e2'']
     have eN:X.N[i0]?=some y:=by
      have q1:(names.map some)[j]?=(qD.map fun i=>X.N[i]?)[j]?:=by rw[cs.qD]
      rw[List.getElem?_map,List.getElem?_map,e1',qc] at q1
      have q2:some y=X.N[i0]?:=by simpa using q1
      exact q2.symm
     have hfree:=cs.au y (List.mem_of_getElem? e1')
     have hm:=PySem.mem_of_lookup hfree
     have hcell:X.env.scope.names.lookup y=some .cell:=by rw[hos];exact cs.frees _ hm rfl
     obtain⟨m,hn,hl⟩:=I3.loc
     obtain⟨u,ru,lk⟩:=hl i0 y v eN e3' (.inr (.inl hcell))
     refine⟨u,ru,?_⟩
     rcases lk with ⟨kk,_⟩ | ⟨kk,c,ec,hcl'⟩
     ·have kk':X.env.scope.names.lookup y=some .local:=kk
      rw[hcell] at kk';cases kk'
     ·refine .inr ⟨?_,c,?_,?_⟩
      ·left
       show (relabel sc X.env).names.lookup y=some .cell
       rw[kZ,hfree]
       have ef:(X.env.scope.kind == ScopeKind.function)=true:=by rw[I3.ok.kind];rfl
       have ek:(X.env.kindOf y == some NameKind.cell)=true:=by
        show (X.env.scope.names.lookup y == some NameKind.cell)=true
        rw[hcell];rfl
       simp [ef,ek]
      ·show (jz X.env sc.names []).lookup y=some c
       cases q:(jz X.env sc.names []).lookup y with
       | none=>exact absurd hm ((cl.2 y).mp q).2
       | some c'=>
        have:=hcl y c' q
        rw[ec] at this
        exact this.symm
      ·obtain⟨o,ho,hd⟩:=hcl'
       exact⟨o,k3 _ _ ho,hd⟩
  ·obtain⟨v,hv⟩:=I3.cell y c (hcl y c e)
   exact⟨v,cell4 y c e v hv⟩
  ·show (List.replicate xs.length none ++ ye σ qD).length=(xs ++ names).length
   unfold ye
   simp [lenC]
 have st4:tn 0 h₁:=T.keep _ _ _ st2 fun b hb o e=>k3 b o (by rw[hs3h];exact Heap.get?_push_of_some _ e)
 have fpok:∀{H':Hp},(∀b∈fp,H' b=none)→∀b∈fp,yT (xP X sc xs names fp s₃ (upd H2 s₂.heap.objs.size (.lst []))) [] H' b:=fun hn b hb=>
  ⟨hn b hb,(ok.WU b hb).1,ok.iC b hb,.inl hb,(ok.WU b hb).2,fun p hp=>absurd (show p∈([]:List (Addr × Obj)) from hp) (by simp)⟩
 have loop:∀s₄:Shared,s₄={ s₃ with heap:=h₁,toks:=s₃.toks + ([]:List (Str × Value)).length }→
   codeAny (model X.prog X.w) X.A (.compLoop (.ListComp elt [⟨tg,iter,ifs,0⟩] sc pos) 0 (.ref it) (.ref s₂.heap.objs.size) (compEnvC sc (jz X.env sc.names []) s₃.heap.objs.size X.env))
    (RR (.ref s₂.heap.objs.size) s₃.heap.objs.size) s₄:=by
  rintro s₄ rfl
  refine nR (fun n s'=>∃i σ' H',Inv (xP X sc xs names fp s₃ (upd H2 s₂.heap.objs.size (.lst []))) [] σ' H' s'∧tn i s'.heap∧(∀b∈fp,H' b=none)∧W i n σ' H') ?_ m0
   ⟨0,_,_,I4 _,st4,fun b hb=>(f3 b hb).1,w0⟩
  rintro n s5 ⟨i,σ5,H5,I5,st5,fr5,w5⟩
  rcases turn i n σ5 H5 w5 with ⟨stop,q⟩ | ⟨go,step⟩
  ·refine jO (T.done (xP X sc xs names fp s₃ (upd H2 s₂.heap.objs.size (.lst []))) rfl rfl rfl hc i [] s5 _ H5 _ I5 (fpok fr5) st5 stop) fun r s6 ⟨hr,I6⟩=>?_
   subst hr
   obtain⟨m,hn,_⟩:=I6.loc
   have J6:Inv X pins σ H5 s6:=I3.iQ (ch:=fp) I6.os I6.base I6.jj I6.bare fun b hb=>⟨(f3 b hb).2.2.2.1,(f3 b hb).2.1,(f3 b hb).2.2.2.2.1,(f3 b hb).2.2.2.2.2⟩
   exact cont _ _ H5 s6 m J6 hn (I3.ag (H':=H5) (Nat.le_refl _) I6.free) q
  ·refine jO (T.item (xP X sc xs names fp s₃ (upd H2 s₂.heap.objs.size (.lst []))) rfl rfl rfl hc i [] s5 _ H5 _ I5 (fpok fr5) st5 go) fun r s6 ⟨u,hr,h6⟩=>?_
   subst hr
   refine jO h6 fun _ s6' ⟨y,H6,I6,r6,y6,st6,fr6⟩=>?_
   have I6':=I6.pinned (fpok fr6) (T.obj _ _ st6)
   have back:∀{σ':St} {H':Hp} {s':Shared},Inv (xP X sc xs names fp s₃ (upd H2 s₂.heap.objs.size (.lst []))) ([] ++ dX fp s6'.heap) σ' H' s'→tn (i + 1) s'.heap∧∀b∈fp,H' b=none:=fun I9=>
    ⟨T.keep _ _ _ st6 fun b hb o e=>(I9.pin (b,o) (List.mem_append_right _ (List.mem_append_right _ (va hb e)))).1,fun b hb=>by
     obtain⟨o,e,d⟩:=T.obj _ _ st6 b hb
     exact(I9.pin (b,o) (List.mem_append_right _ (List.mem_append_right _ (va hb e)))).2.1⟩
   refine wpAny_mono (hg fp s₃ _ _ s6' _ H6 y u _ I6' r6 (step y H6 y6)) (fun _ s7 ⟨σ7,H7,I7,q7⟩=>?_) fun _ _ z=>False.elim z
   refine wpAny_mono (ht fp s₃ _ _ s7 _ H7 _ I7 q7) (fun b s8 ⟨H8,I8,q8⟩=>?_) fun _ _ z=>False.elim z
   cases b with
   | false=>
    rw[if_neg Bool.false_ne_true] at q8 ⊢
    obtain⟨m',hm',w8⟩:=q8
    exact⟨m',hm',i + 1,σ7,H8,I8.kX,(back I8).1,(back I8).2,w8⟩
   | true=>
    rw[if_pos rfl] at q8 ⊢
    refine wpAny_mono (he fp s₃ _ _ s8 _ H8 _ I8 q8) (fun v s9 ⟨vv,H9,I9,r9,ys,hD9,hz9,m',hm',w9⟩=>?_) fun _ _ z=>False.elim z
    refine wpAny_mono (uc (X:=xP X sc xs names fp s₃ (upd H2 s₂.heap.objs.size (.lst []))) _ s9 _ H9 (.ref s₂.heap.objs.size) [vv] (.ref s₂.heap.objs.size) [v] (fun _ H'=>H'=upd H9 s₂.heap.objs.size (.lst (ys ++ [vv]))) I9 rfl (.cons r9 .nil)
     ⟨_,ys,vv,rfl,rfl,hD9,hz9,rfl⟩) (fun _ s10 ⟨_,H10,I10,_,e10⟩=>?_) fun _ _ z=>False.elim z
    subst e10
    exact⟨m',hm',i + 1,σ7,_,I10.kX,(back I10).1,(back I10).2,w9⟩
 exact codeAny_compStart_list (loop _ (by rw[←hs3])) (T.self _ 0 _ _ _ st4 (loop _ (by rw[←hs3])))
theorem aq {pins:List (Addr × Obj)} {σ:St} {H:Hp} {s:Shared} {osc:Scope} {N:List Str} {sc:Scope} {xs names:List Str} {qD:List Nat} (hos:X.env.scope=osc) (cs:bD osc N sc xs names qD) (I:Inv X pins σ H s) :
  closureFor sc X.env=pure (jz X.env sc.names []):=
 mU fun y hy hk=>I.ok.has y.1 (.inl (by show X.env.scope.names.lookup y.1=_;rw[hos];exact cs.frees y hy hk))
theorem nk {osc:Scope} {N:List Str} {sc:Scope} {pos:Pos} {elt iter tg:Expr} {ifs:List Expr} {g:TG} {tt:TT} {xs names:List Str} {qD:List Nat} {wi:TI} {te:TE}
  (hc:X.calm=true) (hos:X.env.scope=osc) (hN:X.N=N) (cs:bD osc N sc xs names qD) (hi:PI X tg iter wi) (hg:∀fp s₀ H₀,PG (xP X sc xs names fp s₀ H₀) tg g) (ht:∀fp s₀ H₀,HN (xP X sc xs names fp s₀ H₀) ifs tt) (he:∀fp s₀ H₀,PE (xP X sc xs names fp s₀ H₀) elt te)
  (hs:∀v,foldedSetIterable iter X.env v=pure v:=by intro _;rfl):PE X (.ListComp elt [⟨tg,iter,ifs,0⟩] sc pos) (YF xs.length qD wi g tt te):=by
 intro pins s σ H Q I h
 rw[eval_ListComp]
 refine wpAny_comprehension_free (use:=none) rfl hs (aq hos cs I) cs.kind cs.locs (jO (hi pins s σ H _ I h) fun xv s1 h1=>jO h1 fun itv s2 h2=>?_)
 obtain⟨it,fp,tn,J,H2,rfl,I2,T,st2,f2,hW⟩:=h2
 refine Qr (Qd:=Q) (RR:=fun acc C=>compPost (model X.prog X.w) X.A X.xe none (EP X pins σ Q) acc C) hc hos hN cs hg ht he I2 T st2 f2 hW fun D C H5 s6 m I6 hn fC q=>?_
 refine⟨m,hn,fun h' sb=>?_⟩
 obtain⟨g0,g1,g2,g3,g4,g5⟩:=fC
 exact⟨.ref D,H5,I6.turned (t':=s6.toks) (it:=C) (fun b o hb e=>sb.extBut b o hb e) g0 g1 g3 g4 g5,rfl,q⟩
end
theorem Jr {J:It} {H:Hp} {xs:List V} {n:Nat} {qD:List Nat} {g:TG} {tt:TT} {te:TE} {σ:St} {Q:VK} (hJ:Qg J H xs) (tv:V→List (Option V)) (hn:∀y,(tv y).length=n) (p:V→Bool) (Pr:V→V→Prop) (hsz:xs.length≤sizeLine)
  (hg:∀(i:Nat) (y:V) (ts:List (Option V)) (H':Hp) (K':St→Hp→Prop),xs[i]?=some y→ts.length=n→qp H H'→K' (tv y ++ ye σ qD) H'→g y (ts ++ ye σ qD) H' K')
  (ht:∀(i:Nat) (y:V) (H':Hp) (Q':Bool→Hp→Prop),xs[i]?=some y→qp H H'→(∀H4,qp H' H4→Q' (p y) H4)→tt (tv y ++ ye σ qD) H' Q')
  (he:∀(i:Nat) (y:V) (H':Hp) (Q':VK),xs[i]?=some y→p y=true→qp H H'→(∀v H4,qp H' H4→Pr y v→Q' v H4)→te (tv y ++ ye σ qD) H' Q')
  (hd:∀(D:Addr) (H':Hp) (ys:List V),qp H H'→H D=none→H' D=some (.lst ys)→Paired Pr (xs.filter p) ys→Q (.ref D) H') :
  ib J n qD g tt te σ Q H:=by
 intro D hD
 refine⟨fun i m σ1 H2=>m=xs.length - i∧i≤xs.length∧(∃ts:List (Option V),ts.length=n∧σ1=ts ++ ye σ qD)∧qp H H2∧∃ys,H2 D=some (.lst ys)∧Paired Pr ((xs.take i).filter p) ys,
  ⟨xs.length,by simp,Nat.zero_le _,⟨_,List.length_replicate,rfl⟩,qp.QY hD,[],qy,by simpa using Paired.nil⟩,?_⟩
 rintro i m σ1 H2 ⟨rfl,hi,⟨ts,htl,rfl⟩,s2,ys,hy,hp⟩
 obtain⟨j1,j2,j3⟩:=hJ i H2 s2
 by_cases hlt:i < xs.length
 ·refine .inr ⟨j1 hlt,fun y H3 q=>?_⟩
  obtain⟨e3,ey⟩:=j2 y H3 q
  subst e3
  have hyi:=ey hlt
  have htake:xs.take (i + 1)=xs.take i ++ [y]:=by
   rw[List.take_add_one,hyi];rfl
  have hlen:ys.length≤i:=by
   rw[←hp.length]
   exact Nat.le_trans (List.length_filter_le _ _) (by rw[List.length_take];omega)
  refine hg i y ts _ _ hyi htl s2 ?_
  refine ht i y _ _ hyi s2 fun H5 s5=>?_
  cases hpy:p y with
  | false=>
   rw[if_neg Bool.false_ne_true]
   refine⟨xs.length - (i + 1),by omega,rfl,hlt,⟨tv y,hn y,rfl⟩,s2.trans s5,ys,s5 _ _ hy,?_⟩
   rw[htake,List.filter_append,show [y].filter p=[] by simp [hpy],List.append_nil]
   exact hp
  | true=>
   rw[if_pos rfl]
   refine he i y _ _ hyi hpy (s2.trans s5) fun v H6 s6 pr=>⟨ys,s6 _ _ (s5 _ _ hy),by omega,xs.length - (i + 1),by omega,rfl,hlt,⟨tv y,hn y,rfl⟩,((s2.trans s5).trans s6).put hD,ys ++ [v],qy,?_⟩
   rw[htake,List.filter_append,show [y].filter p=[y] by simp [hpy]]
   exact hp.snoc pr
 ·have e:i=xs.length:=by omega
  subst e
  refine .inl ⟨j3 rfl,hd D H2 ys s2 hD hy ?_⟩
  rw[List.take_length] at hp
  exact hp
theorem Qu {J:It} {H:Hp} {xs:List V} {n:Nat} {qD:List Nat} {g:TG} {te:TE} {σ:St} {Q:VK} (hJ:Qg J H xs) (tv:V→List (Option V)) (hn:∀y,(tv y).length=n) (Pr:V→V→Prop) (hsz:xs.length≤sizeLine)
  (hg:∀(i:Nat) (y:V) (ts:List (Option V)) (H':Hp) (K':St→Hp→Prop),xs[i]?=some y→ts.length=n→qp H H'→K' (tv y ++ ye σ qD) H'→g y (ts ++ ye σ qD) H' K')
  (he:∀(i:Nat) (y:V) (H':Hp) (Q':VK),xs[i]?=some y→qp H H'→(∀v H4,qp H' H4→Pr y v→Q' v H4)→te (tv y ++ ye σ qD) H' Q')
  (hd:∀(D:Addr) (H':Hp) (ys:List V),qp H H'→H D=none→H' D=some (.lst ys)→Paired Pr xs ys→Q (.ref D) H') :
  ib J n qD g VY te σ Q H:=
 Jr hJ tv hn (fun _=>true) Pr hsz hg (fun i y H' Q' _ s' k=>k H' (qp.refl _)) (fun i y H' Q' hy _ s' k=>he i y H' Q' hy s' k) (fun D H' ys s' hD e q=>hd D H' ys s' hD e (by rw[List.filter_eq_self.mpr (fun _ _=>rfl)] at q;exact q))
end L2
namespace L2
open PySem PySem.Spec PyProof.Rows
section
variable {X:Cx} {pins:List (Addr × Obj)} {σ:St} {H:Hp} {s:Shared} {h':Heap}
theorem Inv.P9 {ch:List Addr} {a:Addr} {o:HO} {t':Nat} (I:Inv X pins σ H s) (hf:∀b∈ch,yT X pins H b) (k:∀b u,b∉ch→s.heap.get? b=some u→h'.get? b=some u)
  (hp:s.heap.objs.size≤a) (new:xk X.prog X.w (upd H a o) h' a o):Inv X pins σ (upd H a o) { s with heap:=h',toks:=t' }:=by
 have hn:=I.jj.fresh hp
 have nit:∀b u,H b=some u→b∉ch:=fun b u e z=>by rw[(hf b z).1] at e;cases e
 have ne:∀b u,s.heap.get? b=some u→b≠a:=fun b u e z=>absurd (Nat.lt_of_lt_of_le (Heap.lt_size (z▸e)) hp) (Nat.lt_irrefl _)
 refine I.step (g':=s.gens) (d':=s.drawn) (ch:=ch) (fun b hb=>?_) (fun b o _ _ hc e _=>k b o hc e) (fun b o _ _ hc e _=>⟨o.slots,k b o hc e⟩) (fun b o hc e n=>?_) (fun b o hc e=>⟨o,k b o hc e⟩) (fun b xs e=>?_) (fun b o u e=>?_) (fun b ps e=>⟨#[],?_⟩) (fun m hm=>?_) (fun b u e=>?_) I.bare
 ·obtain⟨_,f1,_,f3,f4,f5⟩:=hf b hb
  exact⟨f3,f1,f4,f5⟩
 ·rw[qW (ne b o e)];exact n
 ·rw[qW (qx e hn)];exact e
 ·rw[qW (qx e hn)];exact e
 ·rw[qW (qx e hn),e];simp
 ·obtain⟨o,es,ep,ho,r⟩:=hm
  exact⟨o,es,ep,k _ o (fun z=>(hf _ z).2.1 rfl) ho,r⟩
 ·by_cases hb:b=a
  ·subst hb;rw[qy] at e;cases e;exact new
  ·rw[qW hb] at e
   refine(I.jj b u e).sE (fun c v hc q=>k c v ?_ q) (fun c q=>by rw[qW (qx q hn)];exact q) fun c xs q=>by rw[qW (qx q hn)];exact q
   rcases hc with z | z
   ·rw[z];exact nit b u e
   ·exact nit c _ z
theorem Inv.Bx {ch:List Addr} {t':Nat} (I:Inv X pins σ H s) (hf:∀b∈ch,yT X pins H b) (k:∀b u,b∉ch→s.heap.get? b=some u→h'.get? b=some u):Inv X pins σ H { s with heap:=h',toks:=t' }:=by
 have nit:∀b u,H b=some u→b∉ch:=fun b u e z=>by rw[(hf b z).1] at e;cases e
 refine I.step (g':=s.gens) (d':=s.drawn) (ch:=ch) (fun b hb=>?_) (fun b o _ _ hc e _=>k b o hc e) (fun b o _ _ hc e _=>⟨o.slots,k b o hc e⟩) (fun b o hc e n=>n) (fun b o hc e=>⟨o,k b o hc e⟩) (fun b xs e=>e) (fun b o u e=>e) (fun b ps e=>⟨#[],by rw[e];simp⟩) (fun m hm=>?_) (fun b u e=>?_) I.bare
 ·obtain⟨_,f1,_,f3,f4,f5⟩:=hf b hb
  exact⟨f3,f1,f4,f5⟩
 ·obtain⟨o,es,ep,ho,r⟩:=hm
  exact⟨o,es,ep,k _ o (fun z=>(hf _ z).2.1 rfl) ho,r⟩
 ·refine(I.jj b u e).sE (fun c v hc q=>k c v ?_ q) (fun c q=>q) fun c xs q=>q
  rcases hc with z | z
  ·rw[z];exact nit b u e
  ·exact nit c _ z
end
noncomputable def HU (K:PySem.W.Frag) (a b:Addr):It:=
 ⟨fun i H=>∃xs ys x y,qM K H a xs∧qM K H b ys∧xs[i]?=some x∧ys[i]?=some y,
  fun i H v H'=>∃t x y,H t=none∧v=.ref t∧H'=upd H t (.tup [x,y])∧(∀xs,qM K H a xs→xs[i]?=some x)∧∀ys,qM K H b ys→ys[i]?=some y,
  fun i H=>∃xs ys,qM K H a xs∧qM K H b ys∧(xs.length≤i∨ys.length≤i)⟩
noncomputable def Gb (z TI TO i1 i2 l1 l2:Addr) (i:Nat) (h:Heap):Prop:=
 IsZip h z TI TO .none∧IsPair h TI (.ref i1) (.ref i2)∧(∃a b,IsPair h TO a b)∧h.IsListIter i1 l1 i∧h.IsListIter i2 l2 i
theorem Kz {P:Program} {w:World} {K:PySem.W.Frag} {es:List Expr} {k1:Nat} {pos:Pos} {z TI TO i1 i2 l1 l2:Addr} (D:ZipApart z TI TO i1 i2 l1 l2) :
  Turn P w K (.Tuple es k1 pos) (HU K l1 l2) [z,TI,TO,i1,i2] z (Gb z TI TO i1 i2 l1 l2) where
 mem:=by simp
 obj:=fun i h st b hb=>by
  obtain⟨a1,a2,⟨x,y,a3⟩,⟨o4,e4,_,d4⟩,o5,e5,_,d5⟩:=st
  simp only[List.mem_cons,List.not_mem_nil,or_false] at hb
  rcases hb with rfl | rfl | rfl | rfl | rfl
  ·exact⟨_,a1,fun v q=>by cases q⟩
  ·exact⟨_,a2,fun v q=>by cases q⟩
  ·exact⟨_,a3,fun v q=>by cases q⟩
  ·exact⟨_,e4,fun v q=>by rw[d4] at q;cases q⟩
  ·exact⟨_,e5,fun v q=>by rw[d5] at q;cases q⟩
 keep:=fun i h h' st k=>by
  obtain⟨a1,a2,⟨x,y,a3⟩,a4,a5⟩:=st
  exact⟨k z (by simp) _ a1,k TI (by simp) _ a2,⟨x,y,k TO (by simp) _ a3⟩,a4.at fun o e=>k i1 (by simp) o e,a5.at fun o e=>k i2 (by simp) o e⟩
 item:=by
  intro X hP hw hK hc i pins s σ H E I hf st hg
  subst hP hw hK
  obtain⟨xs,ys,x,y,hq1,hq2,hx,hy⟩:=hg
  obtain⟨its1,rv1,p1,_⟩:=I.list hq1
  obtain⟨its2,rv2,p2,_⟩:=I.list hq2
  obtain⟨u1,hu1,ru1⟩:=rv1.get hx
  obtain⟨u2,hu2,ru2⟩:=rv2.get hy
  obtain⟨a1,a2,⟨a,b,a3⟩,a4,a5⟩:=st
  refine wpAny_pyNext_zip_item D a1 a2 a3 a4 a5 p1.isList p2.isList (x:=u1) (y:=u2) (by simpa using hu1) (by simpa using hu2) fun h' b1 b2 b3 b4 b5 b6 bk=>?_
  refine⟨_,rfl,wpAny_letOwnedTupleGo_zip b1 fun h2 c1 c2=>?_⟩
  have lt:∀{c o},s.heap.get? c=some o→s.heap.objs.size≠c:=fun e=>Nat.ne_of_gt (Heap.lt_size e)
  have keepA:∀c o,c∉[z,TI,TO,i1,i2]→s.heap.get? c=some o→h2.get? c=some o:=fun c o hc e=>by
   simp only[List.mem_cons,List.not_mem_nil,or_false,not_or] at hc
   exact c2.extBut _ _ hc.1 (bk c o hc.1 hc.2.2.1 hc.2.2.2.1 hc.2.2.2.2 e)
  have T2:IsPair h2 s.heap.objs.size u1 u2:=c2.extBut _ _ (lt a1) b5
  refine⟨.ref s.heap.objs.size,upd H s.heap.objs.size (.tup [x,y]),I.P9 (t':=s.toks) hf keepA (Nat.le_refl _) ?_,rfl,⟨_,x,y,I.fresh,rfl,rfl,fun zs hz=>by rw[I.lj hz hq1];exact hx,fun zs hz=>by rw[I.lj hz hq2];exact hy⟩,?_,fun b hb=>?_⟩
  ·exact⟨by show 2≤sizeLine;decide,[u1,u2],.cons ru1 (.cons ru2 .nil),_,T2,rfl,0,rfl⟩
  ·exact⟨c1,c2.extBut _ _ D.TIz (bk TI _ D.TIz D.TITO D.TIi1 D.TIi2 a2),⟨_,_,c2.extBut _ _ D.TOz b2⟩,b3.extBut c2.extBut D.i1z,b4.extBut c2.extBut D.i2z⟩
  ·have hb':∃o,s.heap.get? b=some o:=by
    obtain⟨o4,e4,_⟩:=a4
    obtain⟨o5,e5,_⟩:=a5
    simp only[List.mem_cons,List.not_mem_nil,or_false] at hb
    rcases hb with rfl | rfl | rfl | rfl | rfl
    ·exact⟨_,a1⟩
    ·exact⟨_,a2⟩
    ·exact⟨_,a3⟩
    ·exact⟨_,e4⟩
    ·exact⟨_,e5⟩
   obtain⟨o,e⟩:=hb'
   rw[qW (Ne.symm (lt e))]
   exact(hf b hb).1
 done:=by
  intro X hP hw hK hc i pins s σ H E I hf st hg
  subst hP hw hK
  obtain⟨xs,ys,hq1,hq2,he⟩:=hg
  obtain⟨its1,rv1,p1,_⟩:=I.list hq1
  obtain⟨its2,rv2,p2,_⟩:=I.list hq2
  have l1':=rv1.length
  have l2':=rv2.length
  obtain⟨a1,a2,⟨a,b,a3⟩,a4,a5⟩:=st
  refine wpAny_pyNext_zip_end (I.ok.hd hc) D a1 a2 a3 a4 a5 p1.isList p2.isList ?_ fun h' bk=>⟨rfl,I.Bx (t':=s.toks) hf fun c o hc e=>?_⟩
  ·rcases he with he | he
   ·exact .inl (by simp;omega)
   ·exact .inr (by simp;omega)
  ·simp only[List.mem_cons,List.not_mem_nil,or_false,not_or] at hc
   exact bk c o hc.1 hc.2.2.1 hc.2.2.2.1 hc.2.2.2.2 e
 self:=fun _ _ _ _ _ st h=>wpAny_pyIter_zip st.1 h
noncomputable def Ga (K:PySem.W.Frag) (ta:TA):TI:=fun σ H R=>ta σ H fun vs H1=>∃a b xs ys,vs=[.ref a,.ref b]∧qM K H1 a xs∧qM K H1 b ys∧R (HU K a b) H1
section
variable {X:Cx}
theorem Yr {es:List Expr} {k1:Nat} {tpos:Pos} {a b:Expr} {ta:TA} {p pos:Pos} (hg:Gl X "zip") (hm:X.mg "zip" = none) (ha:PA X [a,b] ta) (hv:bootBuiltins "zip" = some (.type "zip"))
  (he:starEach [a,b] X.env=(false,eval a X.env) :: starEach [b] X.env:=by rfl) (hpl:(backTo pos (starEach [b] X.env)).any (·.1)=false:=by rfl) :
  PI X (.Tuple es k1 tpos) (.Call (.Name "zip" p) [a,b] [] pos) (Ga X.K ta):=by
 intro pins s σ H R I h
 refine wpAny_Call_Name_kw (uf I hg hm hv ?_)
 refine PyProof.Rows.callWith_type1 (jO (ha pos pins s σ H _ I h) fun us s1 ⟨vs,H1,I1,r1,q1⟩=>?_) he hpl
 obtain⟨l1,l2,xs,ys,rfl,hq1,hq2,q⟩:=q1
 obtain⟨its1,rv1,p1,_⟩:=I1.list hq1
 obtain⟨its2,rv2,p2,_⟩:=I1.list hq2
 cases r1 with
 | cons r rr=>
  cases rr with
  | cons r' rr=>
   cases rr
   cases r
   cases r'
   have b1:l1 < s1.heap.objs.size:=by obtain⟨_,_,e,_⟩:=p1;exact Heap.lt_size e
   have b2:l2 < s1.heap.objs.size:=by obtain⟨_,_,e,_⟩:=p2;exact Heap.lt_size e
   refine call_zip_2 p1.isList p2.isList fun h' c1 c2 c3 c4 c5 c6 ck=>?_
   refine wpAny_pyIter_zip (s:={ s1 with heap:=h' }) c1 ?_
   refine⟨_,_,_,_,H1,rfl,I1.kept (t':=s1.toks) ck,Kz (zipApart_new b1 b2),⟨c1,c2,⟨_,_,c3⟩,c4,c5⟩,fun c hc=>?_,q⟩
   have:s1.heap.objs.size≤c:=by
    simp only[List.mem_cons,List.not_mem_nil,or_false] at hc
    rcases hc with rfl | rfl | rfl | rfl | rfl<;>omega
   exact I1.ag this (I1.jj.fresh this)
theorem nZ:∀(tk:Nat) (xs:List Str),Vals (xs.map V.str) (strsFrom tk xs)
 | _,[]=>.nil
 | tk,x :: r=>.cons ⟨tk,rfl⟩ (nZ (tk + 1) r)
noncomputable def Ye:V→List V→Hp→VK→Prop:=fun x vs H Q=>∃z y,x=.str z∧vs=[.str y]∧(y.length == 0)=false∧z.length + 2≤sizeLine∧Nw H (.lst ((Txt.split z y).map V.str)) Q
theorem bH:Qw X "str.split" Ye:=by
 intro pins s σ H x vs v us Q I rx rv h
 obtain⟨z,y,rfl,rfl,hy,hz,q⟩:=h
 obtain⟨t,rfl⟩:=rx
 obtain⟨u,rfl,ru⟩:=rv.one
 obtain⟨t',rfl⟩:=ru
 have hsz:z.length≤sizeLine:=by omega
 have hle:=PyProof.Rows.split_le z y
 have fin:∀(l:List Value) (tk:Nat),Vals ((Txt.split z y).map V.str) l→EP X pins σ Q (.ref s.heap.objs.size) { s with heap:=s.heap.push { cls:=.type "list",data:=.seq l.toArray },toks:=tk }:=fun l tk r=>
  ⟨.ref s.heap.objs.size,_,I.K5 (t':=tk) r (by rw[List.length_map];omega),rfl,q.el _ I.fresh⟩
 cases h1:(decide (z.length < y.length) || decide (Builtin.Str.strKind z < Builtin.Str.strKind y)) with
 | true=>
  refine call_meets F.slot_str_split (typeIs_str _ _ _) F.entry_str_split (F.args_str_split_2 _ _) (meets_str_split_cannot_occur z y t t' h1) ?_
  refine fin [.str z t] s.toks ?_
  have e:Txt.split z y=[z]:=if_pos h1
  rw[e];exact .cons ⟨t,rfl⟩ .nil
 | false=>
  cases hf:(Builtin.Str.occurrences z y 0 z.length (z.length + 1)).isEmpty with
  | true=>
   refine call_meets F.slot_str_split (typeIs_str _ _ _) F.entry_str_split (F.args_str_split_2 _ _) (meets_str_split_not_found z y t t' h1 hy hf) ?_
   refine fin [.str z t] s.toks ?_
   have e:Txt.split z y=[z]:=(if_neg (ne_true_of_eq_false h1)).trans (if_pos hf)
   rw[e];exact .cons ⟨t,rfl⟩ .nil
  | false=>
   have e:Txt.split z y=Builtin.Str.partsBetween z (Builtin.Str.occurrences z y 0 z.length (z.length + 1)) y.length:=(if_neg (ne_true_of_eq_false h1)).trans (if_neg (ne_true_of_eq_false hf))
   rw[e] at hle
   refine call_meets F.slot_str_split (typeIs_str _ _ _) F.entry_str_split (F.args_str_split_2 _ _) (meets_str_split_sep z y t t' h1 hy hf hsz (by omega)) ?_
   refine fin _ _ ?_
   rw[e];exact nZ _ _
theorem Vb {K:PySem.W.Frag} {es:List Expr} {k1:Nat} {tpos:Pos} {a b:Expr} {ta:TA} {p pos:Pos} (hK:X.K=K) (hg:Gl X "zip") (hm:X.mg "zip" = none) (ha:PA X [a,b] ta) (hv:bootBuiltins "zip" = some (.type "zip"))
  (he:starEach [a,b] X.env=(false,eval a X.env) :: starEach [b] X.env:=by rfl) (hpl:(backTo pos (starEach [b] X.env)).any (·.1)=false:=by rfl) :
  PI X (.Tuple es k1 tpos) (.Call (.Name "zip" p) [a,b] [] pos) (Ga K ta):=hK▸Yr hg hm ha hv he hpl
end
theorem Jl {K:PySem.W.Frag} {a b:Addr} {H:Hp} {xs ys:List V} {qD:List Nat} {te:TE} {σ:St} {Q:VK} (hx:qM K H a xs) (hy:qM K H b ys) (Pr:V→V→V→Prop) (hsz:xs.length≤sizeLine)
  (he:∀(i:Nat) (x y:V) (H':Hp) (Q':VK),xs[i]?=some x→ys[i]?=some y→qp H H'→(∀v H4,qp H' H4→Pr x y v→Q' v H4)→te ([some x,some y] ++ ye σ qD) H' Q')
  (hd:∀(D:Addr) (H':Hp) (vs:List V),qp H H'→H D=none→H' D=some (.lst vs)→vs.length=min xs.length ys.length→(∀(i:Nat) x y v,xs[i]?=some x→ys[i]?=some y→vs[i]?=some v→Pr x y v)→Q (.ref D) H') :
  ib (HU K a b) 2 qD (WT K 2 (JK (jN 0) (JK (jN 1) Gs))) VY te σ Q H:=by
 intro D hD
 refine⟨fun i m σ1 H2=>m=min xs.length ys.length - i∧i≤min xs.length ys.length∧(∃ts:List (Option V),ts.length=2∧σ1=ts ++ ye σ qD)∧qp H H2∧∃vs,H2 D=some (.lst vs)∧vs.length=i∧∀(j:Nat) x y v,xs[j]?=some x→ys[j]?=some y→vs[j]?=some v→Pr x y v,
  ⟨min xs.length ys.length,by omega,Nat.zero_le _,⟨_,List.length_replicate,rfl⟩,qp.QY hD,[],qy,rfl,fun j x y v _ _ e=>by simp at e⟩,?_⟩
 rintro i m σ1 H2 ⟨rfl,hi,⟨ts,htl,rfl⟩,s2,vs,hv,hvl,hp⟩
 have hx2:qM K H2 a xs:=YK hx s2
 have hy2:qM K H2 b ys:=YK hy s2
 by_cases hlt:i < min xs.length ys.length
 ·have h1:i < xs.length:=by omega
  have h2:i < ys.length:=by omega
  refine .inr ⟨⟨xs,ys,_,_,hx2,hy2,List.getElem?_eq_getElem h1,List.getElem?_eq_getElem h2⟩,fun u H3 q=>?_⟩
  obtain⟨tp,x,y,htn,rfl,rfl,ex,ey⟩:=q
  have ex:=ex xs hx2
  have ey:=ey ys hy2
  have s3:qp H2 (upd H2 tp (.tup [x,y])):=qp.QY htn
  match ts,htl with
  | [_,_],_=>
   refine⟨tp,[x,y],rfl,g9.of qy,rfl,x,[y],rfl,y,[],rfl,rfl,?_⟩
   unfold VY
   dsimp only
   rw[if_pos rfl]
   refine he i x y _ _ ex ey (s2.trans s3) fun v H6 s6 pr=>⟨vs,s6 _ _ (s3 _ _ hv),by omega,min xs.length ys.length - (i + 1),by omega,rfl,hlt,⟨[some x,some y],rfl,rfl⟩,((s2.trans s3).trans s6).put hD,vs ++ [v],qy,by rw[List.length_append,hvl];rfl,fun j x' y' v' e1 e2 e3=>?_⟩
   by_cases hj:j < vs.length
   ·rw[List.getElem?_append_left hj] at e3
    exact hp j x' y' v' e1 e2 e3
   ·have hji:j=i:=by
     have:=(List.getElem?_eq_some_iff.mp e3).1
     rw[List.length_append,List.length_singleton] at this
     omega
    subst hji
    rw[List.getElem?_append_right (by omega),hvl,Nat.sub_self] at e3
    rw[ex] at e1
    rw[ey] at e2
    cases e1
    cases e2
    cases e3
    exact pr
 ·have e:i=min xs.length ys.length:=by omega
  refine .inl ⟨⟨xs,ys,hx2,hy2,by omega⟩,hd D H2 vs s2 hD hv (by omega) hp⟩
end L2
namespace L2
open PyProof.Rows PySem PySem.Spec
noncomputable def uJ (h:Heap) (e C:Addr) (d:Option Addr) (tb:Value):Prop:=∃vs sl,h.get? e=some ⟨.ref C,d,.fields vs,sl⟩∧vs.size=6∧vs[1]?=some tb∧vs[2]?=some .none
noncomputable def Q4 (h:Heap) (T:Addr) (fl:Value):Prop:=∃oT ts,h.get? T=some oT∧oT.data=.fields ts∧ts[3]?=some fl
structure dF (fs ch:List Addr) (h h':Heap):Prop where
 keep:∀b o,h.get? b=some o→b∉fs→b∉ch→h'.get? b=some o
 slot:∀b o,h.get? b=some o→b∈fs→b∉ch→∃sl,h'.get? b=some { o with slots:=sl }
 there:∀b o,h.get? b=some o→∃o',h'.get? b=some o'
theorem dF.trans {fs ch:List Addr} {h h1 h2:Heap} (a:dF fs ch h h1) (b:dF fs ch h1 h2):dF fs ch h h2 where
 keep:=fun c o e hf hc=>b.keep c o (a.keep c o e hf hc) hf hc
 slot:=fun c o e hf hc=>by
  obtain⟨sl,e1⟩:=a.slot c o e hf hc
  obtain⟨sl',e2⟩:=b.slot c _ e1 hf hc
  exact⟨sl',e2⟩
 there:=fun c o e=>by
  obtain⟨o',e1⟩:=a.there c o e
  exact b.there c o' e1
theorem dF.mono {fs ch ch':List Addr} {h h1:Heap} (a:dF fs ch h h1) (hs:∀b∈ch,b∈ch'):dF fs ch' h h1:=
 ⟨fun c o e hf hc=>a.keep c o e hf fun z=>hc (hs c z),fun c o e hf hc=>a.slot c o e hf fun z=>hc (hs c z),a.there⟩
section
variable {M:Model} {A:Around} {E:Value→Shared→Prop} {s:Shared} {base:Heap} {env:Env} {outer:List Env} {L e C:Addr} {d:Option Addr}
theorem dF.one {fs:List Addr} {h:Heap} {a:Addr} {f:Obj→Obj} {o:Obj} (ha:h.get? a=some o) (hf:(f o).isFreed=false):dF fs [a] h (h.update a f):=by
 have ne:∀b,b∉[a]→a≠b:=fun b hb q=>hb (by rw[q];exact List.mem_singleton.mpr rfl)
 refine⟨fun b u e _ hc=>(Heap.get?_update_other _ _ (ne b hc)).trans e,fun b u e _ hc=>⟨u.slots,(Heap.get?_update_other _ _ (ne b hc)).trans e⟩,fun b u e=>?_⟩
 by_cases q:a=b
 ·subst q;exact⟨_,Heap.get?_update_self _ ha hf⟩
 ·exact⟨u,(Heap.get?_update_other _ _ q).trans e⟩
theorem dF.push {fs ch:List Addr} {h:Heap} {o:Obj}:dF fs ch h (h.push o):=
 ⟨fun b u e _ _=>Heap.get?_push_of_some _ e,fun b u e _ _=>⟨u.slots,Heap.get?_push_of_some _ e⟩,fun b u e=>⟨u,Heap.get?_push_of_some _ e⟩⟩
theorem dF.slots {fs ch:List Addr} {h h':Heap} (x:Heap.SlotsOnly fs h h'):dF fs ch h h':=
 ⟨fun b u e hf _=>(x.2.1 b hf).trans e,fun b u e _ _=>x.2.2 b u e,fun b u e=>by obtain⟨sl,q⟩:=x.2.2 b u e;exact⟨_,q⟩⟩
theorem uJ.slots {h h1 : Heap} {l : List Env} {tb : Value} (hx : uJ h e C d tb) (hl : h.FunFrames base l) (k : Heap.SlotsOnly (l.filterMap (·.frame)) h h1) : uJ h1 e C d tb := by
  obtain ⟨vs, sl, he, r⟩ := hx
  refine ⟨vs, sl, (k.2.1 e fun m => ?_).trans he, r⟩
  obtain ⟨_, o, ho, no⟩ := hl.mem m
  cases he.symm.trans ho
  exact no vs rfl
theorem entry_put {tb top : Value} {pl : List Value} {Q : Unit → Shared → Prop} (ip : IsPlace pl) (hx : uJ s.heap e C d tb)
    (q : ∀ h' T, s.heap.objs.size ≤ T → uJ h' e C d (.ref T) → Q4 h' T (rawInt L) → (∀ fs, dF fs [e] s.heap h') → Q () { s with heap := h' }) : wpAny M A (EntryCells.newEntry top (.ref L) .none (rawInt L) .none pl >>= setField (.ref e) 1) Q E s := by
  obtain ⟨vs, sl, he, hsz, h1, h2⟩ := hx
  have nN := ip.sizeOk5 top (.ref L) .none (rawInt L) .none
  unfold EntryCells.newEntry newFields
  generalize ets : List.toArray _ = ts at nN
  have h3 : ts[3]? = some (rawInt L) := by rw [← ets]; rfl
  refine wpAny_bind (wpAny_newObj_type ?_ nN)
  generalize eot : ({ cls := .type "traceback", data := .fields ts } : Obj) = ot
  have nf : (Obj.mapFields (·.setIfInBounds 1 (Value.ref s.heap.objs.size)) ⟨.ref C, d, .fields vs, sl⟩).isFreed = false := Obj.isFreed_of_fields (Obj.data_mapFields rfl _)
  have ge : (s.heap.push ot).get? e = some ⟨.ref C, d, .fields vs, sl⟩ := Heap.get?_push_of_some _ he
  refine wpAny_setField ge rfl (by omega) (q _ s.heap.objs.size (Nat.le_refl _) ⟨vs.setIfInBounds 1 (Value.ref s.heap.objs.size), sl, Heap.get?_update_self _ ge nf, by simpa using hsz, by simp [hsz], ?_⟩ ⟨ot, ts, (Heap.get?_update_other _ _ (Nat.ne_of_lt (Heap.lt_size he))).trans (Heap.get?_push_size _ (by rw [← eot]; rfl)), by rw [← eot], h3⟩ fun fs => dF.push.trans (dF.one ge nf))
  rw [Array.getElem?_setIfInBounds_ne (by decide)]
  exact h2
theorem aW {Q : Unit → Shared → Prop} (hfr : A.frames = some (env :: outer)) (hl : s.heap.FunFrames base (env :: outer)) (hf : env.frame = some L) (hx : uJ s.heap e C d .none)
    (hQ : ∀ h' T, s.heap.objs.size ≤ T → uJ h' e C d (.ref T) → Q4 h' T (rawInt L) → dF ((env :: outer).filterMap (·.frame)) [e] s.heap h' → Q () { s with heap := h' }) : wpAny M A (noteFrame (.ref e) env) Q E s := by
  obtain ⟨_, _, he, _, h1, _⟩ := id hx
  unfold noteFrame
  rw [hf]
  refine wpAny_bind (wpAny_field he rfl h1 ?_)
  rw [if_neg (by decide)]
  exact wpAny_bind (wpAny_frameOf_fun hfr hl hf fun h0 k0 => wpAny_bind (wpAny_entryPlaceOf fun _ ip => entry_put ip (hx.slots hl k0) fun h' T k1 k2 k3 k4 => hQ h' T (k0.1 ▸ k1) k2 k3 ((dF.slots k0).trans (k4 _))))
theorem tT {T0 : Addr} {Q : Unit → Shared → Prop} (hfr : A.frames = some (env :: outer)) (hl : s.heap.FunFrames base (env :: outer)) (hf : env.frame = some L) (hx : uJ s.heap e C d (.ref T0)) (ht : Q4 s.heap T0 .none) (hne : T0 ≠ e)
    (hQ : ∀ h' T, s.heap.objs.size ≤ T → uJ h' e C d (.ref T) → Q4 h' T (rawInt L) → dF ((env :: outer).filterMap (·.frame)) [e, T0] s.heap h' → Q () { s with heap := h' }) : wpAny M A (noteFrame (.ref e) env) Q E s := by
  obtain ⟨vs, sl, he, hsz, h1, h2⟩ := hx
  obtain ⟨oT, ts, gT, dT, h3⟩ := ht
  have t0 : dF ((env :: outer).filterMap (·.frame)) [T0] s.heap (s.heap.update T0 (Obj.mapFields (·.setIfInBounds 3 Value.none))) := dF.one gT (Obj.isFreed_of_fields (Obj.data_mapFields dT _))
  have x0 : uJ (s.heap.update T0 (Obj.mapFields (·.setIfInBounds 3 Value.none))) e C d (.ref T0) := ⟨vs, sl, (Heap.get?_update_other _ _ hne).trans he, hsz, h1, h2⟩
  have l0 : (s.heap.update T0 (Obj.mapFields (·.setIfInBounds 3 Value.none))).FunFrames base (env :: outer) := hl.of_keeps fun b o gb no => by
    refine ⟨o, (Heap.get?_update_other _ _ fun z => ?_).trans gb, rfl⟩
    cases gT.symm.trans (z ▸ gb)
    exact no ts dT
  unfold noteFrame
  rw [hf]
  refine wpAny_bind (wpAny_field he rfl h1 ?_)
  rw [if_pos (by simp)]
  refine wpAny_bind (wpAny_field gT dT h3 ?_)
  rw [if_neg (by simp [rawInt])]
  refine wpAny_bind (wpAny_setField gT dT (Array.getElem?_eq_some_iff.mp h3).1 (wpAny_bind (wpAny_frameOf_fun hfr l0 hf fun h4 k0 => wpAny_bind (wpAny_entryPlaceOf fun _ ip => entry_put ip (x0.slots l0 k0) fun h' T k1 k2 k3 k4 => ?_))))
  refine hQ h' T ?_ k2 k3 ((t0.mono (by simp)).trans ((dF.slots k0).trans ((k4 _).mono (by simp))))
  rw [← Heap.size_update s.heap T0, ← k0.1]
  exact k1
theorem land {T:Addr} {fl:Value} {Q:Unit→Shared→Prop} (hx:uJ s.heap e C d (.ref T)) (ht:Q4 s.heap T fl) (hne:T≠e)
  (hQ:∀h',uJ h' e C d (.ref T)→Q4 h' T .none→(∀fs,dF fs [T] s.heap h')→Q () { s with heap:=h' }):wpAny M A (setFlight (.ref e) none) Q E s:=by
 obtain⟨vs,sl,he,hsz,h1,h2⟩:=hx
 obtain⟨oT,ts,hT,hdT,h3⟩:=ht
 have h3':3 < ts.size:=(Array.getElem?_eq_some_iff.mp h3).1
 have nf:(Obj.mapFields (·.setIfInBounds 3 Value.none) oT).isFreed=false:=Obj.isFreed_of_fields (Obj.data_mapFields hdT _)
 unfold setFlight
 refine wpAny_bind (wpAny_field he rfl h1 ?_)
 rw[if_pos (show (Value.ref T != Value.none)=true from by simp)];refine wpAny_setField hT hdT h3' (hQ _ ⟨vs,sl,(Heap.get?_update_other _ _ hne).trans he,hsz,h1,h2⟩ ⟨_,_,Heap.get?_update_self _ hT nf,Obj.data_mapFields hdT _,by simp [h3']⟩ fun fs=>dF.one hT nf)
theorem iN {Q:Unit→Shared→Prop} (hfr:A.frames=some (env :: outer)) (hl:s.heap.FunFrames base (env :: outer)) (hf:env.frame=some L) (hx:uJ s.heap e C d .none)
  (hQ:∀h' T,s.heap.objs.size≤T→T≠e→uJ h' e C d (.ref T)→Q4 h' T .none→dF ((env :: outer).filterMap (·.frame)) [e,T] s.heap h'→Q () { s with heap:=h' }):wpAny M A (leaving env (.ref e)) Q E s:=by
 have he:e < s.heap.objs.size:=by obtain⟨vs,sl,he,_⟩:=hx;exact Heap.lt_size he
 unfold leaving
 refine wpAny_bind (aW hfr hl hf hx fun h1 T k1 k2 k3 k4=>?_)
 have hne:T≠e:=Nat.ne_of_gt (Nat.lt_of_lt_of_le he k1)
 exact land k2 k3 hne fun h2 j1 j2 j3=>hQ h2 T k1 hne j1 j2 ((k4.mono (by simp)).trans ((j3 _).mono (by simp)))
theorem ao {T0:Addr} {Q:Unit→Shared→Prop} (hfr:A.frames=some (env :: outer)) (hl:s.heap.FunFrames base (env :: outer)) (hf:env.frame=some L) (hx:uJ s.heap e C d (.ref T0)) (ht:Q4 s.heap T0 .none) (hne0:T0≠e)
  (hQ:∀h' T,s.heap.objs.size≤T→T≠e→uJ h' e C d (.ref T)→Q4 h' T .none→dF ((env :: outer).filterMap (·.frame)) [e,T0,T] s.heap h'→Q () { s with heap:=h' }):wpAny M A (leaving env (.ref e)) Q E s:=by
 have he:e < s.heap.objs.size:=by obtain⟨vs,sl,he,_⟩:=hx;exact Heap.lt_size he
 unfold leaving
 refine wpAny_bind (tT hfr hl hf hx ht hne0 fun h1 T k1 k2 k3 k4=>?_)
 have hne:T≠e:=Nat.ne_of_gt (Nat.lt_of_lt_of_le he k1)
 exact land k2 k3 hne fun h2 j1 j2 j3=>hQ h2 T k1 hne j1 j2 ((k4.mono (by simp)).trans ((j3 _).mono (by simp)))
end
end L2
namespace L2
open PyProof.Rows PySem PySem.Spec
noncomputable def xO (e C:Addr) (d:Option Addr):HO:=.ext fun h=>∃tb,uJ h e C d tb
theorem Wa {P:Program} {w:World} {H:Hp} {h:Heap} {e C:Addr} {d:Option Addr} {tb:Value} (x:uJ h e C d tb):xk P w H h e (xO e C d):=by
 obtain⟨vs,sl,he,r⟩:=x
 refine⟨⟨tb,vs,sl,he,r⟩,⟨_,he⟩,fun h1 h2 ⟨tb',vs',sl',he',r'⟩ k=>⟨tb',vs',sl',k _ he',r'⟩⟩
theorem We {P:Program} {w:World} {H:Hp} {h:Heap} {e C:Addr} {d:Option Addr} (x:bC P w H h) (q:H e=some (xO e C d)):∃tb,uJ h e C d tb:=(x e _ q).1
structure VC (a C:Addr) (d:Option Addr) (n:Nat) (H:Hp) (h:Heap) (T:Addr):Prop where
 at':uJ h a C d (.ref T)
 tr:Q4 h T .none
 ne:T≠a
 new:n≤T
 free:H T=none
 is:H a=some (xO a C d)
noncomputable def pT (P:Program) (w:World):rY:=fun outer H s E e s'=>∃(a C:Addr) (d:Option Addr) (T:Addr) (H':Hp),e=.ref a∧s'.os=s.os∧AllBare s'.gens∧Un (nO outer) [] H H' s.heap s'.heap∧bC P w H' s'.heap∧VC a C d s.heap.objs.size H' s'.heap T∧E (.ref C) (some a) H'
theorem oz {P:Program} {w:World} {H:Hp} {h h':Heap} {fs ch:List Addr} {a C:Addr} {d:Option Addr} {tb:Value} (x:bC P w H h) (t:dF fs ch h h') (hf:∀b∈fs,H b=none) (hc:∀b∈ch,b=a∨H b=none) (ha:H a=some (xO a C d)) (hx:uJ h' a C d tb):bC P w H h':=by
 intro b o e
 by_cases q:b=a
 ·subst q
  rw[ha] at e
  cases e
  exact Wa hx
 ·have kp:∀c u,c≠a→H c≠none→h.get? c=some u→h'.get? c=some u:=fun c u hca hcn e=>t.keep c u e (fun z=>hcn (hf c z)) fun z=>(hc c z).elim hca hcn
  refine(x b o e).sE (fun c u hcu e'=>?_) (fun _ z=>z) (fun _ _ z=>z)
  rcases hcu with rfl | hcu
  ·exact kp c u q (by rw[e];exact fun z=>nomatch z) e'
  ·refine kp c u (fun z=>?_) (by rw[hcu];exact fun z=>nomatch z) e'
   rw[z,ha] at hcu
   cases hcu
end L2
namespace L2
open PyProof.Rows PySem PySem.Spec
section
variable {X:Cx} {pins:List (Addr × Obj)} {σ:St} {H:Hp} {s:Shared} {a C:Addr} {d:Option Addr} {E:XK}
theorem Inv.PY (I:Inv X pins σ H s) {h':Heap} {ch:List Addr} (hex:X.ex=[]) (t:dF (nO X.stack) ch s.heap h') (hc:∀b∈ch,H b≠none∨X.s₀.heap.objs.size≤b):Un X.fs [] X.H₀ H X.s₀.heap h':=by
 have u:=I.base
 rw[hex] at u
 have nch:∀b o,X.s₀.heap.get? b=some o→X.H₀ b=none→b∉ch:=fun b o e n hb=>by
  rcases hc b hb with q | q
  ·exact q (u.free b o e n (by simp))
  ·exact absurd (Heap.lt_size e) (Nat.not_lt.mpr q)
 have nloc:∀b o,X.s₀.heap.get? b=some o→b≠X.env.locals:=fun b o e z=>absurd (Heap.lt_size e) (Nat.not_lt.mpr (by rw[z];exact I.ok.above))
 refine⟨fun b o e n hb _=>?_,fun b o e n hb _=>?_,u.free,fun b o e _=>?_,u.su,u.uN,u.sm⟩
 ·refine t.keep b o (u.keep b o e n hb (by simp)) (fun z=>?_) (nch b o e n)
  rcases List.mem_cons.mp (I.sf b z) with q | q
  ·exact nloc b o e q
  ·exact hb q
 ·obtain⟨sl,e1⟩:=u.slot b o e n hb (by simp)
  by_cases q:b∈nO X.stack
  ·obtain⟨sl',e2⟩:=t.slot b _ e1 q (nch b o e n)
   exact⟨sl',e2⟩
  ·exact⟨sl,t.keep b _ e1 q (nch b o e n)⟩
 ·obtain⟨o',e1⟩:=u.there b o e (by simp)
  exact t.there b o' e1
theorem Inv.W3 {M:Model} {EE:Value→Shared→Prop} (I:Inv X pins σ H s) (hst:X.stack=X.env :: X.outer) (hf:X.env.frame=some X.env.locals) (hex:X.ex=[]) (ha:H a=some (xO a C d)) (hx:uJ s.heap a C d .none) (hE:E (.ref C) (some a) H) :
  wpAny M X.A (leaving X.env (.ref a)) (fun _ s''=>pT X.prog X.w X.outer X.H₀ X.s₀ E (.ref a) s'') EE s:=by
 have hfr:=I.ok.frames
 have hst':=I.stack
 have hfree:=I.mG
 rw[hst] at hfr hst'
 refine iN hfr hst' hf hx fun h' T k1 k2 k3 k4 k5=>?_
 have hT:H T=none:=I.jj.fresh k1
 have hs:X.s₀.heap.objs.size≤T:=Nat.le_trans I.sz k1
 have k5':dF (nO X.stack) [a,T] s.heap h':=by rw[hst];exact k5
 refine⟨a,C,d,T,H,rfl,I.os,I.bare,I.PY hex k5' (fun b hb=>?_),oz I.jj k5' hfree (fun b hb=>?_) ha k3,⟨k3,k4,k2,hs,hT,ha⟩,hE⟩
 ·simp only[List.mem_cons,List.not_mem_nil,or_false] at hb
  rcases hb with rfl | rfl
  ·exact .inl (by rw[ha];exact fun z=>nomatch z)
  ·exact .inr hs
 ·simp only[List.mem_cons,List.not_mem_nil,or_false] at hb
  rcases hb with rfl | rfl
  ·exact .inl rfl
  ·exact .inr hT
theorem Inv.JU {M:Model} {EE:Value→Shared→Prop} {T0:Addr} {n:Nat} (I:Inv X pins σ H s) (hst:X.stack=X.env :: X.outer) (hf:X.env.frame=some X.env.locals) (hex:X.ex=[]) (F:VC a C d n H s.heap T0) (hn:X.s₀.heap.objs.size≤n) (hE:E (.ref C) (some a) H) :
  wpAny M X.A (leaving X.env (.ref a)) (fun _ s''=>pT X.prog X.w X.outer X.H₀ X.s₀ E (.ref a) s'') EE s:=by
 have hfr:=I.ok.frames
 have hst':=I.stack
 have hfree:=I.mG
 rw[hst] at hfr hst'
 refine ao hfr hst' hf F.at' F.tr F.ne fun h' T k1 k2 k3 k4 k5=>?_
 have hT:H T=none:=I.jj.fresh k1
 have hs:X.s₀.heap.objs.size≤T:=Nat.le_trans I.sz k1
 have k5':dF (nO X.stack) [a,T0,T] s.heap h':=by rw[hst];exact k5
 refine⟨a,C,d,T,H,rfl,I.os,I.bare,I.PY hex k5' (fun b hb=>?_),oz I.jj k5' hfree (fun b hb=>?_) F.is k3,⟨k3,k4,k2,hs,hT,F.is⟩,hE⟩
 ·simp only[List.mem_cons,List.not_mem_nil,or_false] at hb
  rcases hb with (rfl | rfl | rfl)
  ·exact .inl (by rw[F.is];exact fun z=>nomatch z)
  ·exact .inr (Nat.le_trans hn F.new)
  ·exact .inr hs
 ·simp only[List.mem_cons,List.not_mem_nil,or_false] at hb
  rcases hb with (rfl | rfl | rfl)
  ·exact .inl rfl
  ·exact .inr F.free
  ·exact .inr hT
theorem Inv.Gr {e:Value} {s':Shared} (I:Inv X pins σ H s) (h:pT X.prog X.w X.stack H s E e s'):∃a C d T H',e=.ref a∧Inv X pins σ H' s'∧VC a C d X.s₀.heap.objs.size H' s'.heap T∧E (.ref C) (some a) H':=by
 obtain⟨a,C,d,T,H',rfl,os,bare,un,jj,F,q⟩:=h
 refine⟨a,C,d,T,H',rfl,I.iQ os (ch:=[]) un jj bare (fun b z=>absurd z (by simp)),⟨F.at',F.tr,F.ne,Nat.le_trans I.sz F.new,F.free,F.is⟩,q⟩
end
end L2
namespace L2
open PyProof.Rows PySem PySem.Spec
section
variable {P:Program} {w:World} {K:PySem.W.Frag} {mg:Str→Option Value} {base:Heap}
theorem pU {N:List Str} {qual:Str} {scope:Scope} {f:Addr} {cd:Value} {A:Around} {outer:List Env} {s:Shared} {H:Hp} {E E':XK} (hE:∀c a H,E c a H→E' c a H):Passes (pT P w) (nL (pT P w) P w K mg base N qual scope f cd A outer s H E') E:=by
 intro pins σ H1 s1 e s' I h
 obtain⟨a,C,d,T,H',rfl,I',F,q⟩:=I.Gr h
 exact I'.JU rfl rfl rfl F (Nat.le_refl _) (hE _ _ _ q)
theorem Kn.Xh {x qual:Str} {st:Stmt} {f:Addr} {fd:FuncData} {N ps:List Str} {k:Nat} {sp:Sp} (F:Kn K x qual st f fd) (S:qm N ps (z6 st)) (len:∀vs H Q E,sp vs H Q E→vs.length=ps.length)
  (hbody:∀(cdv:Value) (A:Around) (outer:List Env) (s:Shared) (H:Hp) (vs:List V) (Q:VK) (E:XK),kn k (A.deeper (envOfC qual (z6 st) s.heap.objs.size f cdv))→sp vs H Q E→
   ∃t,sW (nL (pT P w) P w K mg base N qual (z6 st) f cdv A outer s H E) (qq st) t∧t { nx:=fun _ H'=>Q .non H',rt:=Q } (start N vs) H):qr P w K mg base (pT P w) (k + 1) f fd ps sp:=by
 obtain⟨oc,od,kV,doc,pm,an,cdv,ct,osl,rfl,lk,hcd⟩:=F.ex
 exact VA lk hcd S len fun A outer s H vs Q E hr hsp=>hbody cdv A outer s H vs Q E hr hsp
end
end L2
namespace L2
open PyProof.Rows PySem PySem.Spec
noncomputable def qH:List Value→Bool
 | .ref _ :: r=>qH r
 | l=>l == [.type "ValueError",.type "Exception",.type "BaseException",.type "object"]
theorem lL (self:Value):∀{l:List Value},qH l=true→refuseLoop self "__setattr__" l=pure ()
 | .ref c :: r,e=>by rw[refuseLoop_ref];exact lL self e
 | [],e=>by simp [qH] at e
 | .type n :: r,e=>by
  have:(Value.type n :: r)=[.type "ValueError",.type "Exception",.type "BaseException",.type "object"]:=by simpa [qH] using e
  rw[this];exact PySem.F.store_ValueError.passes self
 | .none :: r,e=>by simp [qH] at e
 | .bool _ :: r,e=>by simp [qH] at e
 | .int _ _ :: r,e=>by simp [qH] at e
 | .str _ _ :: r,e=>by simp [qH] at e
 | .builtin _ :: r,e=>by simp [qH] at e
 | .float _ _ :: r,e=>by simp [qH] at e
theorem Qx:∀{l:List Value},qH l=true→l.contains (.type "object")=true∧l.isEmpty=false
 | .ref c :: r,e=>⟨by rw[List.contains_cons,(Qx (l:=r) e).1,Bool.or_true],rfl⟩
 | [],e=>by simp [qH] at e
 | .type n :: r,e=>by
  have:(Value.type n :: r)=[.type "ValueError",.type "Exception",.type "BaseException",.type "object"]:=by simpa [qH] using e
  rw[this];exact⟨by decide,rfl⟩
 | .none :: r,e=>by simp [qH] at e
 | .bool _ :: r,e=>by simp [qH] at e
 | .int _ _ :: r,e=>by simp [qH] at e
 | .str _ _ :: r,e=>by simp [qH] at e
 | .builtin _ :: r,e=>by simp [qH] at e
 | .float _ _ :: r,e=>by simp [qH] at e
structure Kc (K:PySem.W.Frag) (C:Addr):Prop where
 mro:(PySem.W.clsIn K C).any (fun cd=>qH cd.mro && cd.hasDict)=true
 sa:PySem.W.findIn K (.ref C) "__setattr__" = some (some (.builtin "object.__setattr__"))
section
variable {prog:Program} {w:World} {A:Around} {K:PySem.W.Frag} {C x:Addr} {s:Shared} {R:Result→Shared→Prop}
theorem eO {ox : Obj} {od : Option Obj} {name : Str} {tk : Tok} {v : Value} (X : K.In s.heap) (I : PySem.W.InstAt s.heap x ox C od) (hp : (PySem.W.clsIn K C).any (fun cd => qH cd.mro && cd.hasDict) = true) (ht : PySem.W.findIn K (.ref C) name = some none)
    (h : ∀ b, wpAny (model prog w) A.in1 (Builtin.ObjectAttr.storeInOwnDict (.ref x) (.ref C) (.str name tk) name v b) (fun f s' => f = .done (.ret .none) ∧ R (.ok (.ret .none)) s') (fun _ _ => False) s) : codeAny (model prog w) A (.call (.builtin "object.__setattr__") ⟨[.ref x, .str name tk, v], []⟩) R s := by
  obtain ⟨cd, hc, ho⟩ := PySem.W.any_some hp
  have ov := (Bool.and_eq_true_iff.mp ho).1
  obtain ⟨top, some'⟩ := Qx ov
  have lists : PySem.W.Looks (model prog w) s.heap (mroOf (.ref C)) cd.mro := (PySem.W.looks_clsIn X hc).andThen .now
  have over : PySem.W.mroIn K C (.type "object") = some true := by
    unfold PySem.W.mroIn
    simp only [hc, Option.bind_some, some', top, Bool.false_eq_true, if_false]
  have St := PySem.F.store_object
  have is : PySem.W.Looks (model prog w) s.heap (isInstance (.ref x) (.type "object")) true := I.type.andThen (PySem.W.looks_mroIn X over)
  have fit := St.args (.ref x) (.str name tk) v
  refine codeAny_call_builtin St.slot.plain St.entry (PySem.W.check_slot (M := model prog w) (i := "object.__setattr__") (owner := "object") (n := "__setattr__") St.kind St.split is fit ?_)
  rw [PySem.W.osa_eq, refuse_eq]
  refine wpAny_bind (wpAny_bind (I.type.here (wpAny_bind (lists.here ((lL _ ov).symm ▸ wpAny_pure ?_)))))
  refine wpAny_bind (I.type.here (wpAny_bind ((PySem.W.looks_findIn X ht).here (wpAny_bind (wpAny_pure (wpAny_mono (h _) (fun f s' z => ?_) fun _ _ z => z.elim))))))
  obtain ⟨rfl, z⟩ := z
  exact z
theorem bare_ns {h : Heap} {a : Addr} (g : h.get? a = some { cls := .type "dict", data := .dict #[] }) : h.Ns1 a fun _ => none := Heap.Ns1.of_empty ⟨_, _, _, g, rfl, fun _ z => absurd z (Array.not_mem_empty _), fun _ => rfl⟩
theorem ns_line {h : Heap} {a : Addr} {m : Str → Option Value} {ns : List Str} (n : h.Ns1 a m) (hw : PySem.Within m ns) (nN : ns.length ≤ 1001) {Q : Unit → Shared → Prop} {E : Value → Shared → Prop} {g : Array GenState} {dr : Drawn} {t : Nat} {os : OsState} (q : Q () ⟨h, g, dr, t, os⟩) : wpAny (model prog w) A (lookBehind a) Q E ⟨h, g, dr, t, os⟩ := by
  obtain ⟨o, es, ep, ho, hd, hcnt⟩ := n.count hw
  exact wpAny_lookBehind ho (by rw [hd]; exact pastItsLine_dict (by rw [sizeLine_eq]; omega)) q
theorem Zg {E : Value → Shared → Prop} {name : Str} {v : Value} {vs : Array Value} {sl : Array (Option Value)} {Q : Unit → Shared → Prop} (X : K.In s.heap) (c : Kc K C) (hn : PySem.W.findIn K (.ref C) name = some none) (he : s.heap.get? x = some ⟨.ref C, none, .fields vs, sl⟩)
    (h : ∀ h' tk, h'.get? x = some ⟨.ref C, some s.heap.objs.size, .fields vs, sl⟩ → h'.Ns1 s.heap.objs.size (fun y => if y = name then some v else none) → (∀ b o, b ≠ x → s.heap.get? b = some o → h'.get? b = some o) → Q () { s with heap := h', toks := tk }) : wpAny (model prog w) A (setAttr (.ref x) name v) Q E s := by
  have I : PySem.W.InstAt s.heap x ⟨.ref C, none, .fields vs, sl⟩ C none := ⟨he, rfl, rfl, trivial⟩
  obtain ⟨cd, hc, ho⟩ := PySem.W.any_some c.mro
  have hd := (Bool.and_eq_true_iff.mp ho).2
  have far := Nat.ne_of_lt (Heap.lt_size he)
  have up : ∀ {b : Addr} {o : Obj}, s.heap.get? b = some o → (s.heap.push { cls := .type "dict", data := .dict #[] }).get? b = some o := fun q => Heap.get?_push_of_some _ q
  have clsd : PySem.W.Looks (model prog w) s.heap _ _ := PySem.W.looks_clsIn X hc
  refine PySem.W.set_plain X I c.sa (eO (s := { s with toks := s.toks + 1 }) X I c.mro hn fun b => ?_)
  refine wpAny_bind (wpAny_pure (wpAny_bind (wpAny_bind (wpAny_loadPart he (wpAny_bind (clsd.here (s := { s with toks := s.toks + 1 }) ?_))))))
  simp only [hd, Bool.not_true, Bool.false_eq_true, if_false, typeHasDict]
  refine wpAny_bind (wpAny_alloc (wpAny_bind (wpAny_update (up he) (wpAny_pure (a := some s.heap.objs.size) ?_))))
  refine wpAny_bind (wpAny_pure (wpAny_bind (?_ : wpAny _ _ (nsSet _ _ _) _ _ _)))
  refine wpAny_nsSet1 (bare_ns ((Heap.get?_update_other _ _ far).trans (Heap.get?_push_at rfl rfl))) fun h' n k => ?_
  refine wpAny_bind (ns_line n (PySem.Within.cons name v PySem.Within.nil) (Nat.succ_le_succ (Nat.zero_le 1000)) (wpAny_pure ⟨rfl, h h' _ ((k.2 x far).trans (Heap.get?_update_self _ (up he) rfl)) n fun b o nb q => ?_⟩))
  exact (k.2 b (Nat.ne_of_lt (Heap.lt_size q))).trans ((Heap.get?_update_other _ _ (Ne.symm nb)).trans (up q))
theorem Q3 {E : Value → Shared → Prop} {name : Str} {v : Value} {vs : Array Value} {sl : Array (Option Value)} {dx : Addr} {mA : Str → Option Value} {ns : List Str} {Q : Unit → Shared → Prop} (X : K.In s.heap) (c : Kc K C) (hn : PySem.W.findIn K (.ref C) name = some none) (he : s.heap.get? x = some ⟨.ref C, some dx, .fields vs, sl⟩)
    (hd : s.heap.Ns1 dx mA) (hw : PySem.Within mA ns) (hsz : ns.length ≤ 1000) (h : ∀ h' tk, h'.Ns1 dx (fun y => if y = name then some v else mA y) → Heap.SameBut dx s.heap h' → Q () { s with heap := h', toks := tk }) : wpAny (model prog w) A (setAttr (.ref x) name v) Q E s := by
  obtain ⟨od, gd, _⟩ := ud hd
  have I : PySem.W.InstAt s.heap x ⟨.ref C, some dx, .fields vs, sl⟩ C (some od) := ⟨he, rfl, rfl, gd⟩
  obtain ⟨cd, hc, ho⟩ := PySem.W.any_some c.mro
  have hasd := (Bool.and_eq_true_iff.mp ho).2
  have clsd : PySem.W.Looks (model prog w) s.heap _ _ := PySem.W.looks_clsIn X hc
  refine PySem.W.set_plain X I c.sa (eO (s := { s with toks := s.toks + 1 }) X I c.mro hn fun b => ?_)
  refine wpAny_bind (wpAny_pure (wpAny_bind (wpAny_bind (wpAny_loadPart he (wpAny_bind (clsd.here (s := { s with toks := s.toks + 1 }) ?_))))))
  rw [hasd]
  refine wpAny_pure (a := some dx) (wpAny_bind (wpAny_pure (wpAny_bind (wpAny_nsSet1 (s := { s with toks := s.toks + 1 }) hd fun h' n k => ?_))))
  exact wpAny_bind (ns_line n (PySem.Within.cons name v hw) (Nat.succ_le_succ hsz) (wpAny_pure ⟨rfl, h h' _ n k⟩))
end
end L2
namespace L2
open PyProof.Rows PySem PySem.Spec
section
end
end L2
namespace L2
open PyProof.Rows PySem PySem.Spec
noncomputable def xN (e C:Addr) (d:Option Addr):HO:=.ext fun h=>uJ h e C d .none
noncomputable def xD (dx:Addr) (fs:List (Str × V)):HO:=.ext fun h=>∃mA,h.Ns1 dx mA∧(∀f,yK (fs.lookup f) (mA f))∧PySem.Within mA (fs.map (·.1))
theorem Wi {P:Program} {w:World} {H:Hp} {h:Heap} {e C:Addr} {d:Option Addr} (x:uJ h e C d .none):xk P w H h e (xN e C d):=by
 obtain⟨vs,sl,he,r⟩:=x
 refine⟨⟨vs,sl,he,r⟩,⟨_,he⟩,fun h1 h2 ⟨vs',sl',he',r'⟩ k=>⟨vs',sl',k _ he',r'⟩⟩
theorem Ky {P:Program} {w:World} {H:Hp} {h:Heap} {e C:Addr} {d:Option Addr} (x:bC P w H h) (q:H e=some (xN e C d)):uJ h e C d .none:=(x e _ q).1
theorem Wo {P:Program} {w:World} {H:Hp} {h:Heap} {dx:Addr} {fs:List (Str × V)} {mA:Str→Option Value} (n:h.Ns1 dx mA) (r:∀f,yK (fs.lookup f) (mA f)) (wi:PySem.Within mA (fs.map (·.1))):xk P w H h dx (xD dx fs):=by
 have n':=n
 obtain⟨o,es,ep,ho,_⟩:=n'
 refine⟨⟨mA,n,r,wi⟩,⟨o,ho⟩,fun h1 h2 ⟨mA',⟨o',es',ep',ho',q⟩,r'⟩ k=>⟨mA',⟨o',es',ep',k _ ho',q⟩,r'⟩⟩
theorem Wn {P:Program} {w:World} {H:Hp} {h:Heap} {dx:Addr} {fs:List (Str × V)} (x:bC P w H h) (q:H dx=some (xD dx fs)):∃mA,h.Ns1 dx mA∧(∀f,yK (fs.lookup f) (mA f))∧PySem.Within mA (fs.map (·.1)):=(x dx _ q).1
section
variable {X:Cx} {pins:List (Addr × Obj)} {σ:St} {H:Hp} {s:Shared} {a C dx:Addr} {f:Str} {y:V} {u:Value} {o value:Expr} {ta tv:TE} {pos pos':Pos}
theorem eQ {fs:List (Str × V)} {mA:Str→Option Value} (r:∀g,yK (fs.lookup g) (mA g)) (ry:RelV y u) (f:Str):∀g,yK ((qJ f y fs).lookup g) ((fun z=>if z=f then some u else mA z) g):=fun g=>by
 rw[ff]
 by_cases q:g=f
 ·simp only[q,if_true];exact ry
 ·simp only[q,if_false];exact r g
theorem sQ {fs:List (Str × V)} {mA:Str→Option Value} (wi:PySem.Within mA (fs.map (·.1))) (f:Str):PySem.Within (fun z=>if z=f then some u else mA z) ((qJ f y fs).map (·.1)):=fun g hg=>by
 by_cases q:g=f
 ·rw[q];exact(bY f y fs).1
 ·refine(bY f y fs).2 g (wi g fun z=>hg ?_)
  show (if g=f then some u else mA g)=none
  rw[if_neg q];exact z
theorem Kp {A:Around} {E:Value→Shared→Prop} {Q:Unit→Shared→Prop} (I:Inv X pins σ H s) (e:H a=some (xN a C none)) (c:Kc X.K C) (n:qo X.K C f) (ry:RelV y u)
  (h:∀dx s',H dx=none→dx≠a→Inv X pins σ (upd (upd H dx (xD dx [(f,y)])) a (xN a C (some dx))) s'→Q () s'):wpAny (model X.prog X.w) A (setAttr (.ref a) f u) Q E s:=by
 obtain⟨vs,sl,he,hsz,h1,h2⟩:=Ky I.jj e
 refine Zg I.gJ c n he fun h' tk k1 k2 k3=>h s.heap.objs.size _ (I.jj.fresh (Nat.le_refl _)) (Nat.ne_of_gt (Heap.lt_size he)) ?_
 have hax:a≠s.heap.objs.size:=Nat.ne_of_lt (Heap.lt_size he)
 have k2':=k2
 obtain⟨od,es,ep,ho,hd,hr⟩:=k2'
 have nf:od.isFreed=false:=(Heap.get?_some_iff.mp ho).2
 have g1:(s.heap.push od).get? s.heap.objs.size=some od:=Heap.get?_push_size _ nf
 have n1:(s.heap.push od).Ns1 s.heap.objs.size (fun z=>if z=f then some u else none):=⟨od,es,ep,g1,hd,hr⟩
 have r0:∀g,yK (List.lookup g ([(f,y)]:List (Str × V))) ((fun z=>if z=f then some u else none) g):=eQ (fs:=[]) (mA:=fun _=>none) (fun _=>True.intro) ry f
 have w0:PySem.Within (fun z=>if z=f then some u else none) (([(f,y)]:List (Str × V)).map (·.1)):=sQ (fs:=[]) (mA:=fun _=>none) (y:=y) (fun g hg=>absurd rfl hg) f
 have I1:=I.laid (a:=s.heap.objs.size) (o:=xD s.heap.objs.size [(f,y)]) (h':=s.heap.push od) (t':=s.toks) (fun b q z=>Heap.get?_push_of_some _ z) (Nat.le_refl _) (Wo n1 r0 w0)
 refine I1.write (x:=a) (e:=a) (h':=h') (t':=tk) (by rw[qW hax,e];exact True.intro) (.inl rfl) (fun b q hb z=>?_) ⟨_,k1⟩ (Wi ⟨vs,sl,k1,hsz,h1,h2⟩)
 by_cases qb:b=s.heap.objs.size
 ·subst qb
  rw[show (s.heap.push od).get? s.heap.objs.size=some od from g1] at z
  cases z
  exact ho
 ·refine k3 b q hb ?_
  rwa [Heap.get?_push_ne _ _ _ qb] at z
theorem Kf {A:Around} {E:Value→Shared→Prop} {Q:Unit→Shared→Prop} {fs:List (Str × V)} (I:Inv X pins σ H s) (e:H a=some (xN a C (some dx))) (ed:H dx=some (xD dx fs)) (c:Kc X.K C) (n:qo X.K C f) (hl:fs.length≤900) (ry:RelV y u)
  (h:∀s',Inv X pins σ (upd H dx (xD dx (qJ f y fs))) s'→Q () s'):wpAny (model X.prog X.w) A (setAttr (.ref a) f u) Q E s:=by
 obtain⟨vs,sl,he,hsz,h1,h2⟩:=Ky I.jj e
 obtain⟨mA,n1,r1,w1⟩:=Wn I.jj ed
 refine Q3 I.gJ c n he n1 w1 (by rw[List.length_map];omega) fun h' tk k1 k2=>h _ ?_
 have hd:∃o,h'.get? dx=some o:=let ⟨o,_,_,e',_⟩:=k1;⟨o,e'⟩
 exact I.write (x:=dx) (e:=dx) (by rw[ed];exact True.intro) (.inl rfl) (fun b q hb z=>(k2.2 b hb).trans z) hd (Wo k1 (eQ r1 ry f) (sQ w1 f))
noncomputable def Fn (K:PySem.W.Frag) (ta tv:TE) (f:Str):TS:=fun D σ H=>tv σ H fun y H1=>ta σ H1 fun x H2=>∃a C,x=.ref a∧Kc K C∧qo K C f∧
 ((H2 a=some (xN a C none)∧∀dx,H2 dx=none→dx≠a→D.nx σ (upd (upd H2 dx (xD dx [(f,y)])) a (xN a C (some dx))))∨
  (∃dx fs,H2 a=some (xN a C (some dx))∧H2 dx=some (xD dx fs)∧fs.length≤900∧D.nx σ (upd H2 dx (xD dx (qJ f y fs)))))
theorem oY (ha:PE X o ta) (hv:PE X value tv) (hs:swapsWith value (some (.Attribute o f pos')) pos.line X.env=pure false):PS X (.Assign [.Attribute o f pos'] value pos) (Fn X.K ta tv f):=by
 intro pins s σ H D I h
 refine plainObj_wpAny_Assign_Attribute (jO (hv pins s σ H _ I h) fun u s1 ⟨y,H1,I1,ry,q⟩=>jO (ha pins s1 σ H1 _ I1 q) fun ov s2 ⟨x,H2,I2,rx,a,C,ex,c,n,q2⟩=>?_) hs
 subst ex
 obtain rfl:ov=Value.ref a:=rx
 rcases q2 with ⟨e1,k⟩ | ⟨dx,fs,e1,e2,hl,k⟩
 ·exact Kp I2 e1 c n ry fun dx s3 hn hne I3=>⟨σ,_,I3,k dx hn hne⟩
 ·exact Kf I2 e1 e2 c n hl ry fun s3 I3=>⟨σ,_,I3,k⟩
theorem si:∀{l:List Value},qH l=true→l.contains (.type "ValueError")=true∧l.contains (.type "BaseException")=true∧l.contains (.type "AttributeError")=false∧l.contains (.type "NameError")=false
 | .ref c :: r,e=>by
  obtain⟨a,b,c,d⟩:=si (l:=r) e
  exact⟨by rw[List.contains_cons,a,Bool.or_true],by rw[List.contains_cons,b,Bool.or_true],by rw[List.contains_cons,c];rfl,by rw[List.contains_cons,d];rfl⟩
 | [],e=>by simp [qH] at e
 | .type n :: r,e=>by
  have:(Value.type n :: r)=[.type "ValueError",.type "Exception",.type "BaseException",.type "object"]:=by simpa [qH] using e
  rw[this];decide
 | .none :: r,e=>by simp [qH] at e
 | .bool _ :: r,e=>by simp [qH] at e
 | .int _ _ :: r,e=>by simp [qH] at e
 | .str _ _ :: r,e=>by simp [qH] at e
 | .builtin _ :: r,e=>by simp [qH] at e
 | .float _ _ :: r,e=>by simp [qH] at e
noncomputable def gQ (K:PySem.W.Frag) (C:Addr):Bool:=match K.lookup C with
 | some ⟨c,_,.cls cd,sl⟩=>c == .type "type" && cd.mro.head? == some (.ref C) && qH cd.mro && !cd.hasDel && sl.size == 6 && sl[4]? == some (some (.builtin "ValueError.__new__"))
 | _=>false
theorem Kg {K : PySem.W.Frag} {h : Heap} (x : K.In h) (e : gQ K C = true) : ∃ n1 n2 N l1 bm b1 l2 l3 b2 c1 d1 v0 v1 v2 v3 v5, h.get? C = some (excClassObj n1 n2 C N l1 bm b1 l2 l3 b2 c1 d1 v0 v1 v2 v3 v5 "ValueError.__new__") ∧ qH (.ref C :: bm) = true := by
  unfold gQ at e
  split at e
  · rename_i c dd cd sl hk
    simp only [Bool.and_eq_true, beq_iff_eq, Bool.not_eq_true'] at e
    obtain ⟨⟨⟨⟨⟨rfl, hm⟩, hv⟩, hdel⟩, hsz⟩, h4⟩ := e
    rcases cd with ⟨n1, l1, mro, N, n2, b1, l2, l3, b2, c1, del⟩
    cases hdel
    cases mro with
    | nil => cases hm
    | cons m bm =>
      cases hm
      obtain ⟨v0, v1, v2, v3, v5, hl⟩ := six_places (l := sl.toList) (v := some (.builtin "ValueError.__new__")) (by simpa using hsz) (by simpa using h4)
      cases sl
      cases hl
      exact ⟨n1, n2, N, l1, bm, b1, l2, l3, b2, c1, dd, v0, v1, v2, v3, v5, x _ _ hk, hv⟩
  · cases e
noncomputable def Y0 (C:Addr) (o:Obj):Bool:=match o with
 | ⟨c,_,.cls cd,sl⟩=>c == .type "type" && cd.mro.head? == some (.ref C) && qH cd.mro && !cd.hasDel && sl.size == 6 && sl[4]? == some (some (.builtin "ValueError.__new__")) && cd.hasDict
 | _=>false
theorem dP {K:PySem.W.Frag} {o:Obj} (l:K.lookup C=some o) (h:Y0 C o=true):gQ K C=true:=by
 unfold Y0 at h
 split at h
 ·unfold gQ
  rw[l]
  exact(Bool.and_eq_true_iff.mp h).1
 ·cases h
theorem ig {K:PySem.W.Frag} {o:Obj} (l:K.lookup C=some o) (h:Y0 C o=true):(PySem.W.clsIn K C).any (fun cd=>qH cd.mro && cd.hasDict)=true:=by
 unfold Y0 at h
 split at h
 ·rename_i c d cd sl
  unfold PySem.W.clsIn
  rw[l]
  simp only[Bool.and_eq_true] at h;simp [h.1.1.1.1.2,h.2]
 ·cases h
theorem nS {K:PySem.W.Frag} {P:Addr} {c:Value} {b:Bool} (hx:gQ K P=true) (hs:PySem.W.subIn K (.ref P) (.type "BaseException")=some true) (ht:PySem.W.typeIn K (.ref P)=some (.type "type")) (hk:PySem.W.subIn K c (.ref P)=some b):PySem.W.exmOne K c (.ref P)=some b:=by
 have hc:(PySem.W.clsIn K P).isSome=true:=by
  unfold gQ at hx
  unfold PySem.W.clsIn
  split at hx
  ·rename_i l
   rw[l];rfl
  ·cases hx
 unfold PySem.W.exmOne PySem.W.kitCls
 simp [hs,ht,hk,hc]
section
open PySem.W
variable {w : World} {A : Around} {E : Value → Shared → Prop} {h : Heap} {g : Array GenState} {dr : Drawn} {t : Nat} {os : OsState} {prog : Program} {M : Model} {C : Addr}
/-- what a class of exceptions of ours, made by ValueError, answers to the asking for it -/
structure Xcl (M : Model) (h : Heap) (C : Addr) : Prop where
  obj : ∃ n1 n2 N l1 bm b1 l2 l3 b2 c1 d1 v0 v1 v2 v3 v5, h.get? C = some (excClassObj n1 n2 C N l1 bm b1 l2 l3 b2 c1 d1 v0 v1 v2 v3 v5 "ValueError.__new__")
  made : Looks M h (Bind.madeBy (.ref C)) (some "ValueError.__new__")
  base : Looks M h (Bind.staticBase (.ref C)) (.ref C)
  here : Looks M h (Bind.madeHere "BaseException.__new__" (.ref C)) ()
  val : Looks M h (isSubtype (.ref C) (.type "ValueError")) true
  exc : Looks M h (isSubtype (.ref C) (.type "BaseException")) true
  att : Looks M h (isSubtype (.ref C) (.type "AttributeError")) false
  nam : Looks M h (isSubtype (.ref C) (.type "NameError")) false
  self : Looks M h (isSubtype (.ref C) (.ref C)) true
theorem xcl_looks {K : Frag} (X : K.In h) (e : gQ K C = true) : Xcl M h C := by
  obtain ⟨n1, n2, N, l1, bm, b1, l2, l3, b2, c1, d1, v0, v1, v2, v3, v5, hC, hv⟩ := Kg X e
  obtain ⟨a1, a2, a3, a4⟩ := si hv
  have on : ∀ b r, (Value.ref C :: bm).contains b = r → Looks M h (isSubtype (.ref C) b) r := fun b r er A Q E s k q => wpAny_isSubtype_exc (k _ _ hC) (er ▸ q)
  exact ⟨⟨n1, n2, N, l1, bm, b1, l2, l3, b2, c1, d1, v0, v1, v2, v3, v5, hC⟩, fun A Q E s k q => wpAny_madeBy_exc (k _ _ hC) q, fun A Q E s k q => wpAny_staticBase_exc (k _ _ hC) q, fun A Q E s k q => wpAny_madeHere_exc PySem.F.excBase_ValueError.canon (k _ _ hC) q, on _ _ a1, on _ _ a2, on _ _ a3, on _ _ a4, on _ _ (by simp)⟩
theorem Xcl.keeps {h' : Heap} (x : Xcl M h C) (k : ∀ b o, h.get? b = some o → h'.get? b = some o) : Xcl M h' C := by
  obtain ⟨n1, n2, N, l1, bm, b1, l2, l3, b2, c1, d1, v0, v1, v2, v3, v5, hC⟩ := x.obj
  exact ⟨⟨n1, n2, N, l1, bm, b1, l2, l3, b2, c1, d1, v0, v1, v2, v3, v5, k _ _ hC⟩, x.made.keeps k, x.base.keeps k, x.here.keeps k, x.val.keeps k, x.exc.keeps k, x.att.keeps k, x.nam.keeps k, x.self.keeps k⟩
theorem Xcl.new_may (x : Xcl M h C) {rest : List Value} {Q : Unit → Shared → Prop} (q : Q () ⟨h, g, dr, t, os⟩) : wpAny M A (checkBuiltinCall "ValueError.__new__" ⟨.ref C :: rest, []⟩) Q E ⟨h, g, dr, t, os⟩ := by
  have F := PySem.F.excBase_ValueError
  have star := F.noStar
  obtain ⟨x1, x2, x3⟩ : _ ∧ _ ∧ _ := ⟨x.made, x.base, x.val⟩
  obtain ⟨_, _, _, _, _, _, _, _, _, _, _, _, _, _, _, _, hC⟩ := x.obj
  simp only [checkBuiltinCall, F.newKind, F.newSplit, F.newRow]
  repeat first | with_reducible refine wpAny_loadPart_at hC ?_ | simp only [bne_self_eq_false, Bool.false_eq_true, if_false, Bool.not_true] | with_reducible refine Looks.here (by assumption) ?_ | wp_step
  exact q
/-- the two things that are made: its args, and it -/
abbrev argsObj (rest : List Value) : Obj := { cls := .type "tuple", data := .seq rest.toArray }
abbrev excObj (C T : Addr) : Obj := { cls := .ref C, data := .fields #[.ref T, .none, .none, .none, .bool false, .none] }
theorem Xcl.new {R : Result → Shared → Prop} (x : Xcl (model prog w) h C) {rest : List Value} (nN : rest.length ≤ sizeLine)
    (q : R (.ok (.ret (.ref (h.objs.size + 1)))) ⟨(h.push (argsObj rest)).push (excObj C h.objs.size), g, dr, t, os⟩) : codeAny (model prog w) A (.builtin "ValueError.__new__" ⟨.ref C :: rest, []⟩) R ⟨h, g, dr, t, os⟩ := by
  have F := PySem.F.excBase_ValueError
  have ends := F.ends
  obtain ⟨_, _, _, _, _, _, _, _, _, _, _, _, _, _, _, _, hC⟩ := x.obj
  obtain ⟨x1, x2, x3, x4⟩ : _ ∧ _ ∧ _ ∧ _ := ⟨x.here, x.att, x.nam, x.val⟩
  refine codeAny_builtinAt F.entry ?_
  unfold Builtin.«BaseException.__new__»
  refine PySem.wpAt_bind (?_ : PySem.wpAt _ _ _ (stack >>= _) _ _ _)
  refine PySem.wpAt_bind (PySem.wpAt_stack fun p below => PySem.wpAt_of_wpAny ?_)
  wp_walk
  refine PySem.wpAt_of_wpAny (F.owner.symm ▸ ?_)
  repeat first | with_reducible refine wpAny_loadPart_at hC ?_ | with_reducible refine Looks.here (by assumption) ?_ | wp_step
  rw [← Heap.size_push] at q
  exact q
/-- C(rest): a new exception, and its own __init__ -/
theorem Xcl.make (x : Xcl (model prog w) h C) {rest : List Value} {init : Value} {Q : Value → Shared → Prop} (nN : rest.length ≤ sizeLine) (hi : Looks (model prog w) h (typeLookup (.ref C) "__init__") (some init)) (hb : ∀ v, Looks (model prog w) h (bindSpecial init v) (init, [v]))
    (go : wpAny (model prog w) (A.under (.builtin "type.__call__" ⟨.ref C :: rest, []⟩)) (call init (.ref (h.objs.size + 1) :: rest)) (fun r s' => r = .none ∧ Q (.ref (h.objs.size + 1)) s') E ⟨(h.push (argsObj rest)).push (excObj C h.objs.size), g, dr, t, os⟩) :
    wpAny (model prog w) A (call (.ref C) rest) Q E ⟨h, g, dr, t, os⟩ := by
  have F := PySem.F.excBase_ValueError
  obtain ⟨_, _, _, _, _, _, _, _, _, _, _, _, _, _, _, _, hC⟩ := x.obj
  have ty : Shared.TypeIs ⟨h, g, dr, t, os⟩ (.ref C) "type" := ⟨_, hC, rfl⟩
  obtain ⟨c1, c2⟩ : _ ∧ _ := ⟨tc_lookup, tc_bind (.ref C)⟩
  refine wpAny_call (codeAny_of_tree (?_ : wpAny _ _ (callAny (.ref C) _) _ _ _))
  repeat any_goals first | assumption | with_reducible refine wpAny_loadPart_at hC ?_ | wp_step
  refine ⟨rfl, codeAny_call_builtin_at (Code.quiet_builtin _ (by decide +kernel)) entry_typeCall (wpAny_check_type_call_sub hC ?_)⟩
  have made := x.made
  repeat first | with_reducible refine wpAny_loadPart_at hC ?_ | with_reducible refine Looks.here made ?_ | wp_step
  refine codeAny_call_builtin_code (Code.quiet_builtin _ F.quiet) (x.new_may (x.new nN (?_ : wpAny _ _ _ _ _ ⟨(h.push (argsObj rest)).push (excObj C h.objs.size), g, dr, t, os⟩)))
  have up : ∀ b o, h.get? b = some o → ((h.push (argsObj rest)).push (excObj C h.objs.size)).get? b = some o := fun b o e => Heap.get?_push_of_some _ (Heap.get?_push_of_some _ e)
  have new : ((h.push (argsObj rest)).push (excObj C h.objs.size)).get? (h.objs.size + 1) = some (excObj C h.objs.size) := Heap.get?_push_at (Heap.size_push ..).symm rfl
  obtain ⟨y1, y2, y3⟩ : _ ∧ _ ∧ _ := ⟨x.self.keeps up, hi.keeps up, (hb (.ref (h.objs.size + 1))).keeps up⟩
  generalize (h.push (argsObj rest)).push (excObj C h.objs.size) = h2 at go new y1 y2 y3
  unfold isInstance
  repeat first | with_reducible refine wpAny_loadPart_at new ?_ | with_reducible refine Looks.here y1 ?_ | wp_step
  refine (?_ : wpAny _ _ (typeLookup (.ref C) _) _ _ _)
  refine y2.here ?_
  refine wpAny_holding (wpAny_bind ?_)
  refine y3.here ?_
  refine wpAny_bind (jO go fun r s' z => ?_)
  obtain ⟨rfl, z⟩ := z
  wp_walk
  exact z
theorem born (h : Heap) (C : Addr) (rest : List Value) : Heap.MadeExcOf h ((h.push (argsObj rest)).push (excObj C h.objs.size)) (h.objs.size + 1) (.ref C) rest where
  keeps := fun b o e => Heap.get?_push_of_some _ (Heap.get?_push_of_some _ e)
  new := Heap.get?_none_of_le (Nat.le_succ _)
  there := ⟨h.objs.size, Heap.get?_push_at (Heap.size_push ..).symm rfl, Heap.get?_none_of_le (Nat.le_refl _), Heap.get?_push_of_some _ (Heap.get?_push_at rfl rfl)⟩
end
structure Gg (K:PySem.W.Frag) (C f:Addr):Prop where
 xc:gQ K C=true
 init:PySem.W.findIn K (.ref C) "__init__" = some (some (.ref f))
 fn:PySem.W.isFn K (.ref f)=true
 kp:PySem.W.keepIn K (.ref C)=true
section
variable {CX:rY} {k:Nat} {fI:Addr} {fd:FuncData} {ps:List Str} {sp:Sp} {dvs vs:List V} {ds us:List Value} {E:XK} {Q:VK} {x:Str} {p:Pos} {e:Expr} {es:List Expr} {t:TA}
theorem K6 {h h':Heap} {e:Addr} {args:List Value} (m:Heap.MadeExcOf h h' e (.ref C) args):uJ h' e C none .none:=by
 obtain⟨t,he,_⟩:=m.there
 exact⟨_,_,he,rfl,rfl,rfl⟩
theorem QL (M : Gg X.K C fI) (F : qr X.prog X.w X.K X.mg X.base CX k fI fd ps sp) (hr : kn (k + 1) X.A) (hb : Binds X.K fd ps ds) (hd : Vals dvs ds) (hx : Passes CX X E) (I : Inv X pins σ H s) (r : Vals vs us) (hz : vs.length ≤ sizeLine)
    (h : ∀ a, H a = none → sp (.ref a :: (vs ++ dvs)) (upd H a (xN a C none)) (fun v H2 => v = .non ∧ Q (.ref a) H2) E) : wpAny (model X.prog X.w) X.A (call (.ref C) us) (EP X pins σ Q) X.xe s := by
  have ZY := I.gJ
  rcases s with ⟨hp, g, d, tk, os⟩
  refine (xcl_looks ZY M.xc).make (by rw [← r.length]; exact hz) (PySem.W.looks_findIn ZY M.init) (fun v => PySem.W.bind_fn ZY v (beq_iff_eq.mp M.fn)) ?_
  have hm := born hp C us
  have hn : hp.objs.size ≤ hp.objs.size + 1 := Nat.le_succ _
  generalize (hp.push (argsObj us)).push (excObj C hp.objs.size) = h', hp.objs.size + 1 = e at hm hn
  have hq := h e (I.jj.fresh hn)
  have I2 : Inv X pins σ (upd H e (xN e C none)) ⟨h', g, d, tk, os⟩ := I.laid (a := e) (o := xN e C none) (h' := h') (t' := tk) hm.keeps hn (Wi (K6 hm))
  have r2 : Vals (V.ref e :: (vs ++ dvs)) (Value.ref e :: (us ++ ds)) := .cons rfl (r.append hd)
  have hl : (Value.ref e :: us ++ ds).length = ps.length := by
    have e' := r2.length
    rw [F.len _ _ _ _ hq] at e'
    exact e'.symm
  refine wpAny_call (codeAny_mono (F.run _ X.stack _ _ ⟨Value.ref e :: us, []⟩ (Value.ref e :: (us ++ ds)) _ _ E (hr.make C us []) (I2.KD.make C us []) (hb _ (Value.ref e :: us) I2.gJ hl) r2 hq) fun r s' hq' => ?_)
  cases r with
  | error e' => exact hx pins σ _ _ e' s' I2 hq'
  | ok fl =>
    cases fl with
    | ret u =>
      obtain ⟨v, H', I3, rv, ev, q3⟩ := I2.after hq'
      subst ev
      exact ⟨rv, ⟨V.ref e, H', I3, rfl, q3⟩⟩
    | next => exact False.elim hq'
    | brk => exact False.elim hq'
    | cont => exact False.elim hq'
noncomputable def YD (C:Addr) (sp:Sp) (dvs:List V) (E:XK) (t:TA):TE:=fun σ H Q=>t σ H fun vs H1=>vs.length≤sizeLine∧∀a,H1 a=none→sp (.ref a :: (vs ++ dvs)) (upd H1 a (xN a C none)) (fun v H2=>v=.non∧Q (.ref a) H2) E
theorem wa {pos:Pos} (M:Gg X.K C fI) (F:qr X.prog X.w X.K X.mg X.base CX k fI fd ps sp) (hr:kn (k + 1) X.A) (hg:Gl X x) (hm:X.mg x=some (.ref C)) (hb:Binds X.K fd ps ds) (hd:Vals dvs ds) (hx:Passes CX X E)
  (ha:PA X (e :: es) t) (hdb:(x == ("__debug__" : Str))=false:=by decide) (he:starEach (e :: es) X.env=(false,eval e X.env) :: starEach es X.env:=by rfl) (hpl:(backTo pos (starEach es X.env)).any (·.1)=false:=by rfl) :
  PE X (.Call (.Name x p) (e :: es) [] pos) (YD C sp dvs E t):=by
 intro pins s σ H Q I h
 refine wpAny_Call_Name_kw (yj I hg hm ?_ hdb)
 refine PySem.W.callWith_K (h₀:=X.base) I.ok.mod.ZY M.kp (jO (ha pos pins s σ H _ I h) fun us s1 ⟨vs,H1,I1,r,hz,q⟩=>⟨I1.gJ,?_⟩) he hpl
 exact QL M F hr hb hd hx I1 r hz q
structure P5 (K:PySem.W.Frag) (C:Addr):Prop where
 xc:gQ K C=true
 init:PySem.W.findIn K (.ref C) "__init__" = some (some (.builtin "ValueError.__init__"))
 kp:PySem.W.keepIn K (.ref C)=true
noncomputable def HB (C:Addr):TE:=fun _ H Q=>∀a,H a=none→Q (.ref a) (upd H a (xN a C none))
end
end
end L2
namespace L2
open PyProof.Rows PySem PySem.Spec
section
variable {X:Cx} {pins:List (Addr × Obj)} {σ:St} {H:Hp} {s:Shared} {a C:Addr} {d:Option Addr} {e:Expr} {te:TE} {pos:Pos} {E:XK}
theorem Vr {K : PySem.W.Frag} {M : Model} {A : Around} {EE : Value → Shared → Prop} {env : Env} {x : Sem Value} {Q : Flow → Shared → Prop} (hh : A.handled = none)
    (h : wpAny M A x (fun v s1 => ∃ e C d, v = .ref e ∧ K.In s1.heap ∧ gQ K C = true ∧ uJ s1.heap e C d .none ∧ EE (.ref e) s1) EE s) : wpAny M A (raiseStmt env (some x) none) Q EE s := by
  unfold raiseStmt
  refine wpAny_bind (wpAny_mono h (fun v s1 h1 => ?_) fun _ _ z => z)
  obtain ⟨e, C, d, rfl, ZY, hk, ⟨vs, sl, he, hsz, h1, h2⟩, hE⟩ := h1
  have x := (xcl_looks (M := M) ZY hk).exc
  obtain ⟨_, _, _, _, _, _, _, _, _, _, _, _, _, _, _, _, hC⟩ := (xcl_looks (M := M) ZY hk).obj
  rcases s1 with ⟨hp, g, dr, tk, os⟩
  (repeat first | with_reducible refine wpAny_loadPart_at he ?_ | with_reducible refine wpAny_loadPart_at hC ?_ | with_reducible refine PySem.W.Looks.here x ?_ | wp_step); rw [h1]
  refine wpAny_pure ?_
  rw [if_neg (by decide)]
  exact wpAny_pure (wpAny_raiseNew_none hh hE)
noncomputable def Raises (X:Cx) (E:XK):Prop:=∀(pins:List (Addr × Obj)) (σ:St) (H:Hp) (s:Shared) (a C:Addr) (d:Option Addr),Inv X pins σ H s→H a=some (xO a C d)→uJ s.heap a C d .none→E (.ref C) (some a) H→X.xe (.ref a) s
theorem yM {P:Program} {w:World} {K:PySem.W.Frag} {mg:Str→Option Value} {base:Heap} {N:List Str} {qual:Str} {scope:Scope} {f:Addr} {cd:Value} {A:Around} {outer:List Env} {s:Shared} {H:Hp} {E:XK}:Raises (nL (pT P w) P w K mg base N qual scope f cd A outer s H E) E:=
 fun _ _ _ _ _ _ _ I ha hx hE=>I.W3 rfl rfl rfl ha hx hE
noncomputable def YU (K:PySem.W.Frag) (E:XK) (te:TE):TS:=fun _ σ H=>te σ H fun v H1=>∃a C d,v=.ref a∧gQ K C=true∧H1 a=some (xN a C d)∧E (.ref C) (some a) (upd H1 a (xO a C d))
theorem wQ (hX:Raises X E) (hc:X.calm=true) (he:PE X e te):PS X (.Raise (some e) none pos) (YU X.K E te):=by
 intro pins s σ H D I h
 rw[arm_exec_Raise]
 refine wpAny_bind (wpAny_standAt (Vr (K:=X.K) (I.ok.hd hc) ?_))
 refine wpAny_bind (jO (he pins s σ H _ I h) fun u s1 ⟨v,H1,I1,rv,a,C,d,ev,hk,ha,hE⟩=>wpAny_bind (wpAny_standAt (wpAny_pure ?_)))
 subst ev
 obtain rfl:u=Value.ref a:=rv
 have hx:=Ky I1.jj ha
 obtain⟨vs,sl,hg,r⟩:=id hx
 have I2:Inv X pins σ (upd H1 a (xO a C d)) s1:=I1.write (x:=a) (e:=a) (h':=s1.heap) (t':=s1.toks) (by rw[ha];exact True.intro) (.inl rfl) (fun b q _ z=>z) ⟨_,hg⟩ (Wa hx)
 exact⟨a,C,d,rfl,I1.gJ,hk,hx,hX pins σ _ s1 a C d I2 qy hx hE⟩
end
end L2
namespace L2
open PyProof.Rows PySem PySem.Spec
section
variable {X:Cx} {pins:List (Addr × Obj)} {σ:St} {H:Hp} {s:Shared} {a C:Addr} {d:Option Addr} {E Eh:XK}
noncomputable def Jq (X:Cx) (pins:List (Addr × Obj)) (σ:St) (Eh:XK) (ex:Value) (s':Shared):Prop:=∃a C d T H',ex=.ref a∧Inv X pins σ H' s'∧VC a C d X.s₀.heap.objs.size H' s'.heap T∧(∀p∈X.pn ++ pins,p.1≠T)∧Eh (.ref C) (some a) H'
theorem Inv.WL {e:Value} {s':Shared} (I:Inv X pins σ H s) (h:pT X.prog X.w X.stack H s E e s'):Jq X pins σ E e s':=by
 obtain⟨a,C,d,T,H',rfl,os,bare,un,jj,F,q⟩:=h
 refine⟨a,C,d,T,H',rfl,I.iQ os (ch:=[]) un jj bare (fun b z=>absurd z (by simp)),⟨F.at',F.tr,F.ne,Nat.le_trans I.sz F.new,F.free,F.is⟩,fun p hp=>?_,q⟩
 exact Nat.ne_of_lt (Nat.lt_of_lt_of_le (Heap.lt_size (I.pin p hp).1) F.new)
noncomputable def WJ (X:Cx) (Eh:XK) (e:Expr) (te:TE):Prop:=∀(pins:List (Addr × Obj)) (s:Shared) (σ:St) (H:Hp) (Q:VK),Inv X pins σ H s→te σ H Q→wpAny (model X.prog X.w) X.A (eval e X.env) (EP X pins σ Q) (Jq X pins σ Eh) s
section
variable {k:Nat} {f:Addr} {fd:FuncData} {ps:List Str} {sp:Sp} {dvs:List V} {ds:List Value} {x:Str} {p pos:Pos} {e:Expr} {es:List Expr} {t:TA}
theorem Z3 {Q:VK} {us:List Value} {vs:List V} (F:qr X.prog X.w X.K X.mg X.base (pT X.prog X.w) k f fd ps sp) (hr:kn k X.A) (hb:Binds X.K fd ps ds) (hd:Vals dvs ds)
  (I:Inv X pins σ H s) (r:Vals vs us) (h:sp (vs ++ dvs) H Q Eh):wpAny (model X.prog X.w) X.A (call (.ref f) us) (EP X pins σ Q) (Jq X pins σ Eh) s:=by
 have r2:Vals (vs ++ dvs) (us ++ ds):=r.append hd
 have hl:(us ++ ds).length=ps.length:=by rw[←r2.length];exact F.len _ _ _ _ h
 refine wpAny_call (codeAny_mono (F.run X.A X.stack s H ⟨us,[]⟩ (us ++ ds) (vs ++ dvs) Q Eh hr I.KD (hb s us I.gJ hl) r2 h) fun r s' hq=>?_)
 cases r with
 | error e=>exact I.WL hq
 | ok fl=>
  cases fl with
  | ret u=>exact I.after hq
  | next=>exact False.elim hq
  | brk=>exact False.elim hq
  | cont=>exact False.elim hq
theorem Xl (hxe:∀e s,X.xe e s→False) (F:qr X.prog X.w X.K X.mg X.base (pT X.prog X.w) k f fd ps sp) (hr:kn k X.A) (hg:Gl X x) (hm:X.mg x=some (.ref f)) (hk:PySem.W.keepIn X.K (.ref f)=true) (hb:Binds X.K fd ps ds) (hd:Vals dvs ds)
  (ha:PA X (e :: es) t) (hdb:(x == ("__debug__" : Str))=false:=by decide) (he:starEach (e :: es) X.env=(false,eval e X.env) :: starEach es X.env:=by rfl) (hpl:(backTo pos (starEach es X.env)).any (·.1)=false:=by rfl) :
  WJ X Eh (.Call (.Name x p) (e :: es) [] pos) (X7 sp dvs Eh t):=by
 intro pins s σ H Q I h
 refine wpAny_Call_Name_kw (yj I hg hm ?_ hdb)
 refine PySem.W.callWith_K (h₀:=X.base) I.ok.mod.ZY hk (wpAny_mono (ha pos pins s σ H _ I h) (fun us s1 ⟨vs,H1,I1,r,q⟩=>⟨I1.gJ,?_⟩) fun e s z=>(hxe e s z).elim) he hpl
 exact Z3 F hr hb hd I1 r q
end
theorem Inv.PV {h':Heap} {ch:List Addr} {tb:Value} (I:Inv X pins σ H s) (t:dF (nO X.stack) ch s.heap h') (ha:H a=some (xO a C d)) (hx:uJ h' a C d tb)
  (hc:∀b∈ch,b=a∨s.heap.objs.size≤b∨(H b=none∧X.s₀.heap.objs.size≤b∧(∃fl,Q4 s.heap b fl)∧∀p∈X.pn ++ pins,p.1≠b)):Inv X pins σ H { s with heap:=h' }:=by
 have hn:∀b∈ch,b=a∨H b=none:=fun b hb=>by
  rcases hc b hb with q | q | q
  ·exact .inl q
  ·exact .inr (I.jj.fresh q)
  ·exact .inr q.1
 have jj:bC X.prog X.w H h':=oz I.jj t I.mG hn ha hx
 have nch:∀b o,s.heap.get? b=some o→H b=none→b∉ch.filter (fun b=>decide (b≠a∧b < s.heap.objs.size))→b∉ch:=fun b o e n hb z=>by
  refine hb (List.mem_filter.mpr ⟨z,decide_eq_true ⟨fun q=>?_,Heap.lt_size e⟩⟩)
  rw[q,ha] at n
  cases n
 have u:Un (nO X.stack) (ch.filter (fun b=>decide (b≠a∧b < s.heap.objs.size))) H H s.heap h':=by
  refine⟨fun b o e n hf hx=>t.keep b o e hf (nch b o e n hx),fun b o e n hf hx=>t.slot b o e hf (nch b o e n hx),fun _ _ _ n _=>n,fun b o e _=>t.there b o e,fun _ _ z=>z,fun _ _ _ z=>z,fun _ ps z=>⟨#[],by rw[z];simp⟩⟩
 refine I.iQ (s':={ s with heap:=h' }) rfl u jj I.bare fun b hb=>?_
 obtain⟨hb,hb2⟩:=List.mem_filter.mp hb
 have hb2:=of_decide_eq_true hb2
 rcases hc b hb with q | q | ⟨q1,q2,⟨fl,oT,ts,q3,q4,q5⟩,q6⟩
 ·exact absurd q hb2.1
 ·exact absurd hb2.2 (Nat.not_lt.mpr q)
 ·refine⟨.inr q2,fun z=>?_,fun x c e z=>?_,q6⟩
  ·obtain⟨m,⟨o,es,ep,ho,hd,_⟩,_⟩:=I.loc
   rw[←z,q3] at ho
   cases ho
   rw[q4] at hd
   cases hd
  ·obtain⟨v,hv⟩:=I.cell x c e
   rw[z] at hv
   obtain⟨o,ho,hd⟩:=hv
   rw[q3] at ho
   cases ho
   rw[q4] at hd
   cases hd
theorem Inv.lands {M:Model} {A:Around} {EE:Value→Shared→Prop} {T:Addr} {fl:Value} {Q:Unit→Shared→Prop} (I:Inv X pins σ H s) (ha:H a=some (xO a C d)) (hx:uJ s.heap a C d (.ref T)) (ht:Q4 s.heap T fl) (hne:T≠a) (hT:H T=none) (hn:X.s₀.heap.objs.size≤T) (hp:∀p∈X.pn ++ pins,p.1≠T)
  (hQ:∀h',Inv X pins σ H { s with heap:=h' }→VC a C d X.s₀.heap.objs.size H h' T→Q () { s with heap:=h' }):wpAny M A (setFlight (.ref a) none) Q EE s:=by
 refine land hx ht hne fun h' k1 k2 k3=>hQ h' (I.PV (k3 _) ha k1 fun b hb=>?_) ⟨k1,k2,hne,hn,hT,ha⟩
 rw[List.mem_singleton.mp hb]
 exact .inr (.inr ⟨hT,hn,⟨fl,ht⟩,hp⟩)
theorem Inv.Jf {M:Model} {EE:Value→Shared→Prop} {T:Addr} {Q:Unit→Shared→Prop} (I:Inv X pins σ H s) (hst:X.stack=X.env :: X.outer) (hf:X.env.frame=some X.env.locals) (F:VC a C d X.s₀.heap.objs.size H s.heap T) (hp:∀p∈X.pn ++ pins,p.1≠T)
  (hQ:∀h' T',Inv X pins σ H { s with heap:=h' }→VC a C d X.s₀.heap.objs.size H h' T'→(∀p∈X.pn ++ pins,p.1≠T')→Q () { s with heap:=h' }) :
  wpAny M X.A (noteFrame (.ref a) X.env) (fun _ s2=>wpAny M X.A (setFlight (.ref a) none) Q EE s2) EE s:=by
 have hfr:=I.ok.frames
 have hst':=I.stack
 rw[hst] at hfr hst'
 refine tT hfr hst' hf F.at' F.tr F.ne fun h1 T1 k1 k2 k3 k4=>?_
 have hne:T1≠a:=Nat.ne_of_gt (Nat.lt_of_lt_of_le (I.jj.lt F.is) k1)
 have hT1:H T1=none:=I.jj.fresh k1
 have k4':dF (nO X.stack) [a,T] s.heap h1:=by rw[hst];exact k4
 have I1:Inv X pins σ H { s with heap:=h1 }:=I.PV k4' F.is k2 fun b hb=>by
  simp only[List.mem_cons,List.not_mem_nil,or_false] at hb;rcases hb with rfl | rfl
  ·exact .inl rfl
  ·exact .inr (.inr ⟨F.free,F.new,⟨_,F.tr⟩,hp⟩)
 have hp1:∀p∈X.pn ++ pins,p.1≠T1:=fun p hp=>Nat.ne_of_lt (Nat.lt_of_lt_of_le (Heap.lt_size (I.pin p hp).1) k1)
 exact I1.lands F.is k2 k3 hne hT1 (Nat.le_trans I.sz k1) hp1 fun h2 I2 F2=>hQ h2 T1 I2 F2 hp1
noncomputable def Cx.held (X:Cx) (a:Addr):Cx:={ X with A:=X.A.mark (some (.ref a)),calm:=false }
theorem Inv.held (I:Inv X pins σ H s) (a:Addr):Inv (X.held a) pins σ H s:=
 ⟨⟨I.ok.mod,I.ok.kind,I.ok.glob,I.ok.blt,I.ok.above,I.ok.inj,I.ok.has,I.ok.Y4,fun z=>(nomatch z),I.ok.frames,I.ok.Hw,I.ok.WU,I.ok.bs,I.ok.Qp,I.ok.aV,I.ok.iC,I.ok.d7,I.ok.KN⟩,I.os,I.bare,I.base,I.loc,I.cell,I.free,I.yX,I.pin,I.jj,I.len⟩
theorem Inv.iw (ok:X.Ok) (I:Inv (X.held a) pins σ H s):Inv X pins σ H s:=⟨ok,I.os,I.bare,I.base,I.loc,I.cell,I.free,I.yX,I.pin,I.jj,I.len⟩
theorem Inv.gone {h':Heap} {t':Nat} {i:Nat} {n:Str} {v:Option Value} {m:Str→Option Value} (I:Inv X pins σ H s) (hN:X.N.Nodup) (hi:X.N[i]?=some n) (hl:∀(i:Nat) (x:Str) (v:V),X.N[i]?=some x→σ[i]?=some (some v)→HJ X.env.scope x→∃u,RelV v u∧Look X.env s.heap m x u)
  (hn:h'.Ns X.env.locals (fun x=>if x=n then v else m x)) (hs:Heap.SameBut X.env.locals s.heap h'):Inv X pins (σ.set i none) H { s with heap:=h',toks:=t' }:=by
 have neL:∀b o,X.s₀.heap.get? b=some o→b≠X.env.locals:=fun b o e=>Nat.ne_of_lt (Nat.lt_of_lt_of_le (Heap.lt_size e) I.ok.above)
 have tr:∀b u,H b=some u→b≠X.env.locals:=fun b u e z=>by rw[z,I.free] at e;cases e
 have cl:∀x c,X.env.cells.lookup x=some c→c≠X.env.locals:=fun x c e=>I.VE x c e
 have hcell:∀c v,c≠X.env.locals→s.heap.IsCell c v→h'.IsCell c v:=fun c v hc ⟨o,ho,hd⟩=>⟨o,(hs.2 c hc).trans ho,hd⟩
 refine⟨I.ok,I.os,I.bare,⟨fun b o e nn hb hx=>(hs.2 b (neL b o e)).trans (I.base.keep b o e nn hb hx),fun b o e nn hb hx=>?_,I.base.free,fun b o e hx=>?_,I.base.su,I.base.uN,I.base.sm⟩,⟨_,hn,fun j x w e1 e2 e3=>?_⟩,fun x c e=>?_,I.free,I.yX,fun p hp=>?_,fun b u e=>?_,by rw[List.length_set];exact I.len⟩
 ·obtain⟨sl,q⟩:=I.base.slot b o e nn hb hx
  exact⟨sl,(hs.2 b (neL b o e)).trans q⟩
 ·obtain⟨o',q⟩:=I.base.there b o e hx
  exact⟨o',(hs.2 b (neL b o e)).trans q⟩
 ·have hij:i≠j:=fun z=>by
   subst z
   rw[List.getElem?_set] at e2
   split at e2
   ·split at e2<;>cases e2
   ·exact absurd rfl (by assumption)
  rw[List.getElem?_set_ne hij] at e2
  have hxn:x≠n:=fun z=>hij (cQ hN hi (z▸e1))
  obtain⟨u,r,l⟩:=hl j x w e1 e2 e3
  refine⟨u,r,?_⟩
  rcases l with ⟨k,l⟩ | ⟨k,c,e,z⟩
  ·exact .inl ⟨k,by show (if x=n then v else m x)=some u;rw[if_neg hxn];exact l⟩
  ·exact .inr ⟨k,c,e,hcell c _ (cl x c e) z⟩
 ·obtain⟨w,z⟩:=I.cell x c e
  exact⟨w,hcell c w (cl x c e) z⟩
 ·obtain⟨e,q,ne,r⟩:=I.pin p hp
  exact⟨(hs.2 _ ne).trans e,q,ne,r⟩
 ·refine(I.jj b u e).sE (fun c w hc q=>(hs.2 c ?_).trans q) (fun _ q=>q) fun _ _ q=>q
  rcases hc with z | z
  ·rw[z];exact tr b u e
  ·exact tr c _ z
theorem name_goes {M:Model} {A:Around} {EE:Value→Shared→Prop} {Q:Unit→Shared→Prop} {i:Nat} {n:Str} {pos:Pos} (I:Inv X pins σ H s) (hN:X.N.Nodup) (hi:X.N[i]?=some n) (hx:X.env.scope.names.lookup n=some .local) (hlen:i < σ.length)
  (h:∀s',Inv X pins (σ.set i none) H s'→Q () s'):wpAny M A (do bindName X.env n .none;unbindBehindTheSuite X.env n pos) Q EE s:=by
 have hp:(X.env.scope.kind == .class || (X.env.scope.kind == .module && X.env.locals != X.env.globals))=false:=by rw[I.ok.kind];rfl
 have hk:X.env.kindOf n=some .local:=hx
 refine wpAny_bind (wpAny_bindName (gs I hN hi (.inl hx) (v:=.non) (u:=.none) rfl (fun s1 I1=>?_) (.inr hx)))
 obtain⟨m,hn,hl⟩:=id I1.loc
 obtain⟨u,r,l⟩:=hl i n .non hi (by rw[List.getElem?_set_self hlen]) (.inl hx)
 have hm:m n=some u:=by
  rcases l with ⟨_,l⟩ | ⟨k,_⟩
  ·exact l
  ·rw[hk] at k;rcases k with k | k<;>cases k
 unfold unbindBehindTheSuite
 refine wpAny_onRaise ?_
 unfold unbindName
 refine wpAny_bind (wpAny_point (wpAny_bind ?_));unfold deleteName
 simp only[hk,hp]
 rw[if_neg (by decide)]
 refine wpAny_bind (wpAny_nsDel_keeps hn fun h' v hn' hs'=>?_)
 rw[hm]
 simp only[if_true,Option.isSome_some,Bool.not_true,Bool.false_eq_true,if_false];refine wpAny_pure (wpAny_point (h _ ?_))
 have:=I1.gone (t':=s1.toks) hN hi hl hn' hs'
 rw[List.set_set] at this
 exact this
theorem SP.Gn {M:Model} {A:Around} {EE:Value→Shared→Prop} {D:Ends} {i:Nat} {n:Str} {pos:Pos} {f:Flow} (ok:X.Ok) (hN:X.N.Nodup) (hi:X.N[i]?=some n) (hx:X.env.scope.names.lookup n=some .local)
  (h:SP (X.held a) pins { nx:=fun σ H=>D.nx (σ.set i none) H,rt:=D.rt,bk:=fun σ H=>D.bk (σ.set i none) H,ct:=fun σ H=>D.ct (σ.set i none) H } f s) :
  wpAny M A (do bindName X.env n .none;unbindBehindTheSuite X.env n pos) (fun _ s'=>SP X pins D f s') EE s:=by
 have hlen:∀{σ':St} {H':Hp} {s':Shared},Inv X pins σ' H' s'→i < σ'.length:=fun J=>by rw[J.len];exact(List.getElem?_eq_some_iff.mp hi).1
 cases f with
 | next=>
  obtain⟨σ',H',J,q⟩:=h
  have J:=J.iw ok
  exact name_goes J hN hi hx (hlen J) fun s' J'=>⟨_,H',J',q⟩
 | ret u=>
  obtain⟨v,σ',H',J,r,q⟩:=h
  have J:=J.iw ok
  exact name_goes J hN hi hx (hlen J) fun s' J'=>⟨v,_,H',J',r,q⟩
 | brk=>
  obtain⟨σ',H',J,q⟩:=h
  have J:=J.iw ok
  exact name_goes J hN hi hx (hlen J) fun s' J'=>⟨_,H',J',q⟩
 | cont=>
  obtain⟨σ',H',J,q⟩:=h
  have J:=J.iw ok
  exact name_goes J hN hi hx (hlen J) fun s' J'=>⟨_,H',J',q⟩
noncomputable def Hs (K:PySem.W.Frag) (Eh:XK) (P:Addr) (i:Nat) (te:TE) (th:Addr→TS):TS:=fun D σ H=>(te σ H fun _ H1=>D.nx σ H1)∧∀C a H',Eh (.ref C) (some a) H'→PySem.W.exmOne K (.ref C) (.ref P)=some true∧
 th a { nx:=fun σ H=>D.nx (σ.set i none) H,rt:=D.rt,bk:=fun σ H=>D.bk (σ.set i none) H,ct:=fun σ H=>D.ct (σ.set i none) H } (σ.set i (some (.ref a))) H'
theorem Vm {P:Addr} {x n:Str} {i:Nat} {e:Expr} {te:TE} {th:Addr→TS} {b0:Stmt} {suite:List Stmt} {p1 pc ph pos:Pos} (hxe:∀e s,X.xe e s→False) (hst:X.stack=X.env :: X.outer) (hf:X.env.frame=some X.env.locals)
  (hN:X.N.Nodup) (hi:X.N[i]?=some n) (hx:X.env.scope.names.lookup n=some .local) (hg:Gl X x) (hm:X.mg x=some (.ref P)) (he:WJ X Eh e te) (hs:∀a,sW (X.held a) (b0 :: suite) (th a))
  (hdb:(x == ("__debug__" : Str))=false:=by decide) (hsw:swapsWith e none p1.line X.env=pure false:=by rfl) :
  PS X (.Try [.Expr e p1] [.ExceptHandler (some (.Name x pc)) (some n) (b0 :: suite) ph] [] [] pos) (Hs X.K Eh P i te th):=by
 intro pins s σ H D I ⟨h1,h2⟩
 refine wpAny_Try_except ?_
 refine wpAny_execs_cons (wpAny_Expr_any (wpAny_mono (he pins s σ H _ I h1) (fun u s1 ⟨v,H1,I1,r1,q1⟩=>wpAny_execs_nil (wpAny_execs_nil ⟨σ,H1,I1,q1⟩)) fun ex s1 hfl=>?_) I.quiet hsw)
 obtain⟨a,C,d,T,H1,rfl,I1,F,hp,hE⟩:=hfl
 obtain⟨hex,hth⟩:=h2 C a H1 hE
 refine I1.Jf hst hf F hp fun h2' T2 I2 F2 hp2=>?_
 have J2:=I2.held a
 refine wpAny_handleBy_cons (codeAny_handlers_test (yj J2 hg hm ?_ hdb)) (by intro q;cases q)
 obtain⟨vs,sl,hg2,_⟩:=id F2.at'
 have LT:PySem.W.Looks (model X.prog X.w) h2' (typeOf (.ref a)) (.ref C):=(PySem.W.Looks.ld hg2).andThen .now
 refine(PySem.W.exm_one I2.gJ LT hex).here ?_
 show codeAny _ _ _ _ _
 refine codeAny_handlers_suite_as ?_;refine I2.lands F2.is F2.at' F2.tr F2.ne F2.free F2.new hp2 fun h3 I3 F3=>?_
 refine gs I3 hN hi (.inl hx) (v:=.ref a) (u:=.ref a) rfl (fun s4 I4=>?_) (.inr hx)
 refine wpAny_mono (hs a pins s4 _ H1 _ (I4.held a) hth) (fun f s5 hsp=>?_) (fun ex s5 hz=>(hxe ex s5 hz).elim)
 exact SP.Gn I4.ok hN hi hx hsp
end
end L2
namespace L2
open PyProof.Rows PySem PySem.Spec
noncomputable def VL (H:Hp) (a C:Addr) (fs:List (Str × V)):Prop:=(fs=[]∧H a=some (xO a C none))∨∃dx,H a=some (xO a C (some dx))∧H dx=some (xD dx fs)
theorem VL.look {P:Program} {w:World} {H:Hp} {h:Heap} {a C:Addr} {fs:List (Str × V)} (x:bC P w H h) (q:VL H a C fs):∃ox od,PySem.W.InstAt h a ox C od∧∀f v,fs.lookup f=some v→∃o u,od=some o∧PySem.W.lookIn f o=some (some u)∧RelV v u:=by
 rcases q with ⟨rfl,q⟩ | ⟨dx,q1,q2⟩
 ·obtain⟨tb,vs,sl,he,_⟩:=We x q
  exact⟨_,none,⟨he,rfl,rfl,trivial⟩,fun f v e=>by cases e⟩
 ·obtain⟨tb,vs,sl,he,_⟩:=We x q1
  obtain⟨mA,n1,r1,_⟩:=Wn x q2
  obtain⟨od,ho,hl⟩:=ud n1
  refine⟨_,some od,⟨he,rfl,rfl,ho⟩,fun f v e=>?_⟩
  have r:=r1 f
  rw[e] at r
  cases hm:mA f with
  | none=>rw[hm] at r;exact False.elim r
  | some u=>rw[hm] at r;exact⟨od,u,rfl,by rw[hl,hm],r⟩
section
variable {prog:Program} {w:World} {A:Around} {E:Value→Shared→Prop} {s:Shared} {K:PySem.W.Frag} {x C:Addr} {ox:Obj} {od:Option Obj} {name:Str} {tk:Tok} {v:Value} {R:Result→Shared→Prop}
theorem VD (X:K.In s.heap) (I:PySem.W.InstAt s.heap x ox C od) (hm:PySem.W.mroIn K C (.type "BaseException")=some true):PySem.W.Looks (model prog w) s.heap (isInstance (.ref x) (.type "BaseException")) true:=I.type.andThen (PySem.W.looks_mroIn X hm)
theorem eS (X : K.In s.heap) (I : PySem.W.InstAt s.heap x ox C od) (hm : PySem.W.mroIn K C (.type "BaseException") = some true)
    (h : wpAny (model prog w) A.in1 (Builtin.«object.__getattribute__» ⟨[.ref x, .str name tk], []⟩) (fun f s' => ∃ v, f = .done (.ret v) ∧ R (.ok (.ret v)) s') (fun _ _ => False) s) : codeAny (model prog w) A (.call (.builtin "BaseException.__getattribute__") ⟨[.ref x, .str name tk], []⟩) R s := by
  have fit := PySem.F.args_bexc_ga (.ref x) (.str name tk)
  have sub := VD (prog := prog) (w := w) X I hm
  refine codeAny_call_builtin PySem.F.attr_ValueError.ga.plain PySem.F.entry_bexc_ga (PySem.W.check_slot (i := "BaseException.__getattribute__") (owner := "BaseException") (n := "__getattribute__") (by decide +kernel) (by decide +kernel) sub fit (wpAny_mono h (fun f s' z => ?_) fun _ _ z => z.elim))
  obtain ⟨v, rfl, z⟩ := z
  exact z
theorem Kb {fill expr:Bool} {Q:Value→Shared→Prop} (X:K.In s.heap) (I:PySem.W.InstAt s.heap x ox C od) (hga:PySem.W.findIn K (.ref C) "__getattribute__" = some (some (.builtin "BaseException.__getattribute__"))) (hgn:PySem.W.findIn K (.ref C) "__getattr__" = some none) (hm:PySem.W.mroIn K C (.type "BaseException")=some true)
  (h:codeAny (model prog w) A (.call (.builtin "BaseException.__getattribute__") ⟨[.ref x,.str name tk],[]⟩) (fun r s'=>match r with | .ok (.ret v)=>wpAny (model prog w) A (handedOut v) Q E s' | _=>False) s) :
  wpAny (model prog w) A (getAttrBy (.ref x) (.str name tk) fill expr) Q E s:=by
 unfold getAttrBy
 refine wpAny_holding (wpAny_bind (I.type.here (wpAny_bind ((PySem.W.looks_findIn X hga).here ?_))))
 have hne:(Value.builtin "BaseException.__getattribute__" == Value.builtin "object.__getattribute__")=false:=by decide +kernel
 dsimp only
 rw[hne,Bool.and_false,if_neg Bool.false_ne_true]
 unfold getAttrByItsOwn hookBefore
 rw[show onTheHeap (Value.ref C)=true from rfl,if_pos rfl]
 refine wpAny_bind ((PySem.W.looks_findIn X hgn).here (wpAny_bind (wpAny_attempt (wpAny_holding ?_))))
 unfold callGetattribute
 rw[if_neg (by cases expr<;>decide +kernel)]
 unfold boundAndCalled
 refine wpAny_bind (wpAny_of_eq (PySem.F.attr_ValueError.ga.bind (.ref x)) ?_)
 refine wpAny_call (codeAny_mono h fun r s' z=>?_)
 rcases r with e | (u | _ | _ | _)<;>first | exact z | exact z.elim
theorem Zv {fill expr : Bool} {Q : Value → Shared → Prop} (X : K.In s.heap) (I : PySem.W.InstAt s.heap x ox C od) (hga : PySem.W.findIn K (.ref C) "__getattribute__" = some (some (.builtin "BaseException.__getattribute__"))) (hgn : PySem.W.findIn K (.ref C) "__getattr__" = some none) (hm : PySem.W.mroIn K C (.type "BaseException") = some true)
    (hf : PySem.W.findObj K C od name = some (.value v)) (hh : PySem.W.handedIn v = true) (h : Q v s) : wpAny (model prog w) A (getAttrBy (.ref x) (.str name tk) fill expr) Q E s := by
  refine Kb X I hga hgn hm (eS X I hm ?_)
  obtain ⟨hp, g, d, t, os⟩ := s
  unfold Builtin.«object.__getattribute__»; refine wpAny_bind (wpAny_pure ?_)
  refine wpAny_bind (wpAny_pure (wpAny_bind ((I.type (M := model prog w)).at (wpAny_bind ((PySem.W.looks_find (M := model prog w) X I hf).at ?_)))))
  refine wpAny_pure ⟨_, rfl, (?_ : wpAny _ _ (handedOut v) _ _ _)⟩; rw [PySem.W.handedOut_of hh]
  exact wpAny_pure h
theorem Zk {Q : Option Value → Shared → Prop} (X : K.In s.heap) (I : PySem.W.InstAt s.heap x ox C od) (hga : PySem.W.findIn K (.ref C) "__getattribute__" = some (some (.builtin "BaseException.__getattribute__"))) (hgn : PySem.W.findIn K (.ref C) "__getattr__" = some none) (hm : PySem.W.mroIn K C (.type "BaseException") = some true)
    (hf : PySem.W.findObj K C od "__class__" = some (.bind (.builtin "getset_descriptor.__get__") (.builtin "object.__class__"))) (ho : PySem.W.mroIn K C (.type "object") = some true) (h : Q (some (.ref C)) { s with toks := s.toks + 1 }) : wpAny (model prog w) A (getAttr? (.ref x) "__class__") Q E s := by
  unfold getAttr? getAttrBy?
  refine wpAny_bind (wpAny_mkText (wpAny_bind (wpAny_attempt ?_)))
  refine Kb (s := { s with toks := s.toks + 1 }) X I hga hgn hm (eS (s := { s with toks := s.toks + 1 }) X I hm ?_)
  obtain ⟨hp, g, d, t, os⟩ := s
  unfold Builtin.«object.__getattribute__»; refine wpAny_bind (wpAny_pure ?_)
  refine wpAny_bind (wpAny_pure (wpAny_bind ((I.type (M := model prog w)).at (wpAny_bind ((PySem.W.looks_find (M := model prog w) X I hf).at ?_)))))
  dsimp only
  show wpAny _ _ (holding [Value.builtin "object.__class__"] (call (.builtin "getset_descriptor.__get__") [.builtin "object.__class__", .ref x, .ref C]) >>= ret) _ _ _
  refine wpAny_bind (wpAny_holding (wpAny_call (PySem.W.class_get (s := ⟨hp, g, d, t + 1, os⟩) (ox := ox) (od := od) X I ho ?_)))
  exact wpAny_pure ⟨_, rfl, PySem.W.handed_on rfl (wpAny_pure h)⟩
end
structure Gh (K:PySem.W.Frag) (C:Addr):Prop where
 ga:PySem.W.findIn K (.ref C) "__getattribute__" = some (some (.builtin "BaseException.__getattribute__"))
 gn:PySem.W.findIn K (.ref C) "__getattr__" = some none
 bx:PySem.W.mroIn K C (.type "BaseException")=some true
 hd:PySem.W.hasDictIn K C=true
 ha:PySem.W.findIn K (.ref C) "__class__" = some (some (.builtin "object.__class__"))
 hn:PySem.W.specialIn K (.builtin "object.__class__") "__get__" = some (some (.builtin "getset_descriptor.__get__"))
 HX:PySem.W.takesIn K (.builtin "object.__class__")=some true
 hm:PySem.W.mroIn K C (.type "object")=some true
theorem JF {K:PySem.W.Frag} {x D:Addr} {ox:Obj} {od:Option Obj} (ty:Gh K D):PySem.W.KitX K (.ref x) (.ref D) (fun h=>PySem.W.InstAt h x ox D od):=by
 have hcl:∃c' d' cd' sl',K.lookup D=some ⟨c',d',.cls cd',sl'⟩:=by
  obtain⟨cdD,hcD,_⟩:=PySem.W.any_some ty.hd
  unfold PySem.W.clsIn at hcD
  split at hcD
  ·rename_i c' d' cd' sl' ho
   exact⟨c',d',cd',sl',ho⟩
  ·cases hcD
 have hf:PySem.W.findObj K D od "__class__" = some (.bind (.builtin "getset_descriptor.__get__") (.builtin "object.__class__")):=by
  obtain⟨cd,hc,_⟩:=PySem.W.any_some ty.hd
  unfold PySem.W.findObj
  rw[hc,Option.bind_some,ty.ha,Option.bind_some]
  simp [ty.hn,ty.HX]
 refine⟨fun _ _ _ I=>I.type,fun M h X _=>?_,fun h tp dd its n sl X htp=>?_,fun {prog w A E Q s} X I k=>?_⟩
 ·obtain⟨c',d',cd',sl',ho⟩:=hcl
  intro A' Q' E' s' k q
  unfold isType loadHead;exact wpAny_bind (wpAny_loadPart (k _ _ (X _ _ ho)) (wpAny_pure q))
 ·obtain⟨c',d',cd',sl',ho⟩:=hcl
  refine Bool.eq_false_iff.mpr fun q=>?_;have e:D=tp:=Value.ref.inj (beq_iff_eq.mp q)
  subst e;have z:=(X _ _ ho).symm.trans htp
  cases z
 ·exact Zk X I ty.ga ty.gn ty.bx hf ty.hm k
section
variable {X:Cx} {K:PySem.W.Frag}
theorem nM (hK:X.K=K):vQ X (.builtin "isinstance") (fun xs H Q=>∃a C fs c b,xs=[.ref a,c]∧((∃n,c=.ty n)∨∃a,c=.ref a)∧VL H a C fs∧Gh K C∧PySem.W.kitOne K (.ref C) (Ju c)=some b∧Q (.bl b) H):=by
 subst hK
 intro pins s σ H xs us Q I r h
 obtain⟨a,C,fs,c,b,rfl,hc,hx,ty,hk,q⟩:=h
 obtain⟨u,u',rfl,rx,rc⟩:=vals2 r
 have e:u'=Ju c:=by
  rcases hc with ⟨n,rfl⟩ | ⟨a,rfl⟩
  ·exact rc
  ·exact rc
 subst e
 cases (show u=Value.ref a from rx)
 obtain⟨ox,od,J,_⟩:=hx.look I.jj
 exact PySem.W.kia_one (JF ty) I.gJ J hk (fun z=>nomatch z) fun tk=>⟨.bl b,H,I.tok _,rfl,q⟩
noncomputable def Ho (K:PySem.W.Frag) (ta:TE) (f:Str):TE:=fun σ H Q=>ta σ H fun x H1=>∃a C fs v,x=.ref a∧VL H1 a C fs∧Gh K C∧qo K C f∧fs.lookup f=some v∧Q v H1
theorem oV {e:Expr} {f:Str} {ta:TE} {pos:Pos} (hK:X.K=K) (he:PE X e ta) (hb:attributeBase e f X.env (eval e X.env)=eval e X.env):PE X (.Attribute e f pos) (Ho K ta f):=by
 subst hK
 intro pins s σ H Q I h
 refine Zf hb (jO (he pins s σ H _ I h) fun u s1 ⟨x,H1,I1,rx,a,C,fs,v,ex,hx,ty,n,l,q⟩=>?_)
 subst ex
 obtain rfl:u=Value.ref a:=rx
 obtain⟨ox,od,J,hl⟩:=hx.look I1.jj
 obtain⟨o,u',rfl,lk,ru⟩:=hl f v l
 exact wpAny_bind (wpAny_mkText (Zv (s:={ s1 with toks:=s1.toks + 1 }) I1.gJ J ty.ga ty.gn ty.bx (PySem.W.findObj_own ty.hd n rfl lk) (tY ru) ⟨v,H1,I1.tok _,ru,q⟩))
end
end L2
namespace L2
open PyProof.Rows PySem PySem.Spec
structure Gw (k:Nat) (A:Around):Prop where
 dp:A.depth + 3 * k + 5 < recursionLimit
 un:A.units + 16 * k + 200 < cLine
structure B4 (P:Program) (w:World) (K:PySem.W.Frag) (mg:Str→Option Value) (base:Heap) (CX:rY) (k:Nat) (f:Addr) (fd:FuncData) (ps:List Str) (sp:Sp):Prop where
 len:∀vs H Q E,sp vs H Q E→vs.length=ps.length
 run:∀(A:Around) (outer:List Env) (s:Shared) (H:Hp) (args:Args) (us:List Value) (vs:List V) (Q:VK) (E:XK),Gw k A→iu P w K mg base A outer s H→BindsTo s fd args (ps.zip us)→Vals vs us→sp vs H Q E→codeAny (model P w) A (.call (.ref f) args) (CR CX outer P w H s Q E) s
section
variable {P:Program} {w:World} {K:PySem.W.Frag} {mg:Str→Option Value} {base:Heap} {CX:rY}
noncomputable def Cx.any (X:Cx):Cx:={ X with calm:=false,xe:=fun _ _=>False }
section
variable {X:Cx} {pins:List (Addr × Obj)} {σ:St} {H:Hp} {s:Shared} {k:Nat} {f:Addr} {fd:FuncData} {ps:List Str} {sp:Sp} {dvs:List V} {ds:List Value} {x:Str} {p pos:Pos} {e:Expr} {es:List Expr} {t:TA}
end
end
end L2
namespace L2
open PyProof.Rows PySem PySem.Spec
section
variable {prog:Program} {w:World} {A:Around} {E:Value→Shared→Prop} {s:Shared} {a e C:Addr} {d:Option Addr} {tb:Value} {oe:Obj} {vs:Array Value}
end
end L2
namespace L2
open PyProof.Rows PySem PySem.Spec
structure Gy (aa:Addr) (P:Program) (w:World) (K:PySem.W.Frag) (tg:Expr) (J:It) (fp:List Addr) (it:Addr) (tn:Nat→Heap→Prop):Prop where
 mem:it∈fp
 obj:∀i h,tn i h→∀b∈fp,∃o,h.get? b=some o∧∀v,o.data≠.cell v
 keep:∀i h h',tn i h→(∀b∈fp,∀o,h.get? b=some o→h'.get? b=some o)→tn i h'
 item:∀(X:Cx),X.prog=P→X.w=w→X.K=K→X.A.handled=some (.ref aa)→∀(i:Nat) (pins:List (Addr × Obj)) (s:Shared) (σ:St) (H:Hp) (E:Value→Shared→Prop),Inv X pins σ H s→(∀b∈fp,yT X pins H b)→tn i s.heap→J.go i H→
  wpAny (model P w) X.A (pyNext (.ref it)) (fun r s1=>∃u,r=some u∧wpAny (model P w) X.A (letOwnedTupleGo tg (.ref it) u) (fun _ s2=>∃x H',Inv X pins σ H' s2∧RelV x u∧J.WZ i H x H'∧tn (i + 1) s2.heap∧∀b∈fp,H' b=none) E s1) E s
 done:∀(X:Cx),X.prog=P→X.w=w→X.K=K→X.A.handled=some (.ref aa)→∀(i:Nat) (pins:List (Addr × Obj)) (s:Shared) (σ:St) (H:Hp) (E:Value→Shared→Prop),Inv X pins σ H s→(∀b∈fp,yT X pins H b)→tn i s.heap→J.stop i H→wpAny (model P w) X.A (pyNext (.ref it)) (fun r s1=>r=none∧Inv X pins σ H s1) E s
 self:∀(A:Around) (i:Nat) (s:Shared) (Q:Value→Shared→Prop) (E:Value→Shared→Prop),tn i s.heap→Q (.ref it) s→wpAny (model P w) A (pyIter (.ref it)) Q E s
noncomputable def HC (aa:Addr) (lo:Int) (n:Nat):It:=⟨fun i _=>i < n,fun i H x H'=>H'=H∧x=.int (lo + i),fun i H=>n≤i∧∃C d,H aa=some (xO aa C d)⟩
section
variable {X:Cx}
noncomputable def PN (X:Cx) (aa:Addr) (tg iter:Expr) (wi:TI):Prop:=∀(pins:List (Addr × Obj)) (s:Shared) (σ:St) (H:Hp) (R:It→Hp→Prop),Inv X pins σ H s→wi σ H R→
 wpAny (model X.prog X.w) X.A (eval iter X.env) (fun v s1=>wpAny (model X.prog X.w) X.A (pyIter v) (fun itv s2=>∃(it:Addr) (fp:List Addr) (tn:Nat→Heap→Prop) (J:It) (H':Hp),itv=.ref it∧Inv X pins σ H' s2∧Gy aa X.prog X.w X.K tg J fp it tn∧tn 0 s2.heap∧(∀b∈fp,yT X pins H' b)∧R J H') X.xe s1) X.xe s
noncomputable def Bv (aa:Addr) (ta:TA):TI:=fun σ H R=>ta σ H fun vs H1=>∃j:Int,vs=[.int j]∧-(2 ^ 62)≤j∧j < 2 ^ 62∧R (HC aa 0 j.toNat) H1
end
end L2
namespace L2
open PySem PySem.Spec PyProof.Rows
section
variable {κ:Type} [DecidableEq κ]
noncomputable def vB (kvs:List (κ × V)) (k:κ):Option V:=(kvs.find? fun kv=>decide (kv.1=k)).map (·.2)
noncomputable def putK (kvs:List (κ × V)) (k:κ) (v:V):List (κ × V):=
 if (kvs.any fun kv=>decide (kv.1=k))=true then kvs.map (fun kv=>if kv.1=k then (kv.1,v) else kv) else kvs ++ [(k,v)]
noncomputable def Ja (kvs:List (κ × V)) (k:κ):List (κ × V):=kvs.filter fun kv=>decide (kv.1≠k)
theorem kW {p:κ × V} {r:List (κ × V)} {k:κ} (e:p.1=k):vB (p :: r) k=some p.2:=by simp [vB,List.find?_cons,e]
theorem kK {p:κ × V} {r:List (κ × V)} {k:κ} (e:¬p.1=k):vB (p :: r) k=vB r k:=by simp [vB,List.find?_cons,e]
theorem bM (k:κ):∀kvs:List (κ × V),(kvs.any fun kv=>decide (kv.1=k))=(vB kvs k).isSome
 | []=>rfl
 | p :: r=>by
  rw[List.any_cons]
  by_cases e:p.1=k
  ·simp only[kW e,decide_eq_true e,Bool.true_or,Option.isSome_some]
  ·rw[kK e,decide_eq_false e,Bool.false_or];exact bM k r
theorem eU (k j:κ) (y:V):∀kvs:List (κ × V),vB (kvs.map fun kv=>if kv.1=k then (kv.1,y) else kv) j=(vB kvs j).map fun x=>if j=k then y else x
 | []=>rfl
 | p :: r=>by
  have ih:=eU k j y r
  rw[List.map_cons]
  by_cases h:p.1=k
  ·rw[if_pos h]
   by_cases e:p.1=j
   ·rw[kW (p:=(p.1,y)) e,kW e,Option.map_some,if_pos (e.symm.trans h)]
   ·rw[kK (p:=(p.1,y)) e,kK e,ih]
  ·rw[if_neg h]
   by_cases e:p.1=j
   ·rw[kW (p:=p) e,kW e,Option.map_some,if_neg (fun z=>h (e.trans z))]
   ·rw[kK (p:=p) e,kK e,ih]
theorem nh (k j:κ) (y:V):∀kvs:List (κ × V),vB kvs k=none→vB (kvs ++ [(k,y)]) j=if j=k then some y else vB kvs j
 | [],_=>by
  by_cases e:k=j
  ·rw[if_pos e.symm];exact kW (p:=(k,y)) e
  ·rw[if_neg (fun z=>e z.symm)];exact kK (p:=(k,y)) e
 | p :: r,hn=>by
  rw[List.cons_append]
  have hk:¬p.1=k:=fun z=>by rw[kW z] at hn;cases hn
  rw[kK hk] at hn
  have ih:=nh k j y r hn
  by_cases e:p.1=j
  ·rw[kW e,kW e,if_neg (fun z=>hk (e.trans z))]
  ·rw[kK e,kK e,ih]
theorem Kx (kvs:List (κ × V)) (k j:κ) (y:V):vB (putK kvs k y) j=if j=k then some y else vB kvs j:=by
 unfold putK
 by_cases a:(kvs.any fun kv=>decide (kv.1=k))=true
 ·rw[if_pos a,eU]
  rw[bM] at a
  by_cases e:j=k
  ·obtain⟨x,hx⟩:=Option.isSome_iff_exists.mp a
   rw[if_pos e,e,hx,Option.map_some,if_pos rfl]
  ·rw[if_neg e]
   cases vB kvs j with
   | none=>rfl
   | some x=>rw[Option.map_some,if_neg e]
 ·rw[if_neg a]
  refine nh k j y kvs ?_
  rw[bM] at a
  cases q:vB kvs k with
  | none=>rfl
  | some x=>rw[q] at a;exact(a rfl).elim
theorem uH (kvs:List (κ × V)) (k:κ) (v:V):(putK kvs k v).length≤kvs.length + 1:=by
 unfold putK
 split
 ·rw[List.length_map];omega
 ·rw[List.length_append,List.length_cons,List.length_nil];omega
theorem Xo {kvs:List (κ × V)} {k:κ} (v:V) (h:vB kvs k=none):putK kvs k v=kvs ++ [(k,v)]:=by
 unfold putK
 rw[bM,h]
 exact if_neg (by decide)
theorem yK.bV {o:Option V} {u:Option Value} (r:yK o u):o.isSome=u.isSome:=by
 cases o with
 | none=>cases u with
  | none=>rfl
  | some _=>exact(show False from r).elim
 | some _=>cases u with
  | none=>exact(show False from r).elim
  | some _=>rfl
theorem yK.getD {o:Option V} {u:Option Value} {d:V} {d':Value} (r:yK o u) (rd:RelV d d'):RelV (o.getD d) (u.getD d'):=by
 cases o with
 | none=>cases u with
  | none=>exact rd
  | some _=>exact(show False from r).elim
 | some _=>cases u with
  | none=>exact(show False from r).elim
  | some _=>exact r
theorem KV.val {kvs:List (κ × V)} {vs:List (κ × Value)} (r:KV kvs vs) (k:κ):yK (vB kvs k) (valueAt vs k):=by
 unfold KV at r
 induction r with
 | nil=>exact True.intro
 | @cons p q ps qs h t ih=>
  obtain⟨h1,h2⟩:=h
  by_cases e:p.1=k
  ·have e':q.1=k:=h1.symm.trans e
   have b:valueAt (q :: qs) k=some q.2:=by simp [valueAt,List.find?_cons,e']
   rw[kW e,b];exact h2
  ·have e':¬q.1=k:=fun z=>e (h1.trans z)
   have b:valueAt (q :: qs) k=valueAt qs k:=by simp [valueAt,List.find?_cons,e']
   rw[kK e,b];exact ih
theorem KV.any {kvs:List (κ × V)} {vs:List (κ × Value)} (r:KV kvs vs) (k:κ):(kvs.any fun kv=>decide (kv.1=k))=vs.any fun kv=>decide (kv.1=k):=by
 unfold KV at r
 induction r with
 | nil=>rfl
 | cons h t ih=>rw[List.any_cons,List.any_cons,ih,h.1]
theorem KV.YQ {kvs:List (κ × V)} {vs:List (κ × Value)} (r:KV kvs vs) (k:κ) {y:V} {u:Value} (ry:RelV y u) :
  KV (kvs.map fun kv=>if kv.1=k then (kv.1,y) else kv) (vs.map fun kv=>if kv.1=k then (kv.1,u) else kv):=by
 unfold KV at r ⊢
 induction r with
 | nil=>exact .nil
 | @cons p q ps qs h t ih=>
  rw[List.map_cons,List.map_cons]
  refine .cons ?_ ih
  obtain⟨h1,h2⟩:=h
  by_cases e:p.1=k
  ·rw[if_pos e,if_pos (h1.symm.trans e)];exact⟨h1,ry⟩
  ·rw[if_neg e,if_neg (fun z=>e (h1.trans z))];exact⟨h1,h2⟩
theorem KV.put {kvs:List (κ × V)} {vs:List (κ × Value)} (r:KV kvs vs) (k:κ) {y:V} {u:Value} (ry:RelV y u):KV (putK kvs k y) (stored vs k u):=by
 unfold putK stored
 rw[r.any k]
 by_cases e:(vs.any fun kv=>decide (kv.1=k))=true
 ·rw[if_pos e,if_pos e];exact r.YQ k ry
 ·rw[if_neg e,if_neg e];exact Paired.snoc r ⟨rfl,ry⟩
theorem KV.keys {kvs:List (κ × V)} {vs:List (κ × Value)} (r:KV kvs vs):kvs.map (·.1)=vs.map (·.1):=by
 unfold KV at r
 induction r with
 | nil=>rfl
 | cons h t ih=>rw[List.map_cons,List.map_cons,ih,h.1]
theorem KV.length {kvs:List (κ × V)} {vs:List (κ × Value)} (r:KV kvs vs):kvs.length=vs.length:=Paired.length r
end
theorem tU {P:Program} {w:World} {k:Key} {u:Value} (r:RelV (kV k) u):(xp P w).is k u=true:=by
 cases k with
 | inl i=>obtain⟨t,e⟩:=(show ∃t,u=Value.int i t from r);subst e;exact i3 P w i t
 | inr x=>obtain⟨t,e⟩:=(show ∃t,u=Value.str x t from r);subst e;exact i4 P w x t
theorem tF {P:Program} {w:World}:∀{ks:List Key} {us:List Value},Vals (ks.map kV) us→ItemsAre (xp P w) ks us
 | [],_,r=>by rw[List.map_nil] at r;cases r;exact .nil
 | k :: ks,_,r=>by
  rw[List.map_cons] at r
  cases r with
  | cons h t=>exact .cons (tU h) (tF t)
noncomputable abbrev KT (H:Hp):List (List Key × V)→List (List Key × Addr × Value)→Prop:=Paired fun p q=>p.1=q.1∧H q.2.1=some (.tup (p.1.map kV))∧RelV p.2 q.2.2
theorem KT.val {H:Hp} {kvs:List (List Key × V)} {xs:List (List Key × Addr × Value)} (r:KT H kvs xs) (k:List Key):yK (vB kvs k) ((atKey xs k).map (·.2)):=by
 induction r with
 | nil=>exact True.intro
 | @cons p q ps qs h t ih=>
  obtain⟨h1,_,h2⟩:=h
  by_cases e:p.1=k
  ·have e':q.1=k:=h1.symm.trans e
   have b:atKey (q :: qs) k=some q.2:=by simp [atKey,List.find?_cons,e']
   rw[kW e,b];exact h2
  ·have e':¬q.1=k:=fun z=>e (h1.trans z)
   have b:atKey (q :: qs) k=atKey qs k:=by simp [atKey,List.find?_cons,e']
   rw[kK e,b];exact ih
theorem KT.YQ {H:Hp} {kvs:List (List Key × V)} {xs:List (List Key × Addr × Value)} (r:KT H kvs xs) (k:List Key) {y:V} {u:Value} (ry:RelV y u) :
  KT H (kvs.map fun kv=>if kv.1=k then (kv.1,y) else kv) (xs.map (putAt k u)):=by
 induction r with
 | nil=>exact .nil
 | @cons p q ps qs h t ih=>
  rw[List.map_cons,List.map_cons]
  refine .cons ?_ ih
  obtain⟨h1,h2,h3⟩:=h
  unfold putAt
  by_cases e:p.1=k
  ·rw[if_pos e,if_pos (h1.symm.trans e)];exact⟨h1,h2,ry⟩
  ·rw[if_neg e,if_neg (fun z=>e (h1.trans z))];exact⟨h1,h2,h3⟩
theorem KT.put {H:Hp} {kvs:List (List Key × V)} {xs:List (List Key × Addr × Value)} (r:KT H kvs xs) (k:List Key) {b:Addr} {y:V} {u:Value} (hb:H b=some (.tup (k.map kV))) (ry:RelV y u) :
  KT H (putK kvs k y) (storedH xs k b u):=by
 have e:(kvs.any fun kv=>decide (kv.1=k))=(atKey xs k).isSome:=by
  rw[bM,(r.val k).bV,Option.isSome_map]
 unfold putK storedH
 rw[e]
 by_cases q:(atKey xs k).isSome=true
 ·rw[if_pos q,if_pos q];exact r.YQ k ry
 ·rw[if_neg q,if_neg q];exact Paired.snoc r ⟨rfl,hb,ry⟩
theorem KT.keeps {H H':Hp} {kvs:List (List Key × V)} {xs:List (List Key × Addr × Value)} (r:KT H kvs xs) (ht:∀b ys,H b=some (.tup ys)→H' b=some (.tup ys)):KT H' kvs xs:=
 Paired.JA r fun _ _ z=>⟨z.1,ht _ _ z.2.1,z.2.2⟩
section
variable {P:Program} {w:World} {H:Hp} {h:Heap} {a:Addr}
theorem V9 {u:HO} (ok:bC P w H h) (e:Rd H a u):xk P w H h a u:=e.ok ok
theorem rB {kvs:List (Key × V)} (ok:bC P w H h) (e:Rd H a (.dK kvs)):kvs.length≤sizeLine∧(a == sysModules)=false∧∃vs,KV kvs vs∧h.DictOf (xp P w) a vs:=
 show xk P w H h a (.dK kvs) from V9 ok e
theorem Je {kvs:List (Key × V)} (ok:bC P w H h) (e:H a=some (.dK kvs)):kvs.length≤sizeLine∧(a == sysModules)=false∧∃vs,KV kvs vs∧h.DictOf (xp P w) a vs:=rB ok (.inl e)
theorem uh {ks:List Key} (ok:bC P w H h) (e:H a=some (.tup (ks.map kV))):(tupleKind (xp P w)).is h ks a:=by
 obtain⟨_,its,r,o,h1,h2,n,h3⟩:=(show xk P w H h a (.tup (ks.map kV)) from ok a _ e)
 exact⟨o,its.toArray,n,h1,h2,h3,by simpa using tF r⟩
theorem tK {kvs:List (List Key × V)} (ok:bC P w H h) (e:Rd H a (.dT kvs)):kvs.length≤sizeLine∧(a == sysModules)=false∧
  ∃xs,KT H kvs xs∧h.DictOfH (tupleKind (xp P w)) a xs:=by
 obtain⟨z,y,xs,r,o,es,ep,h1,h2,h3,h4,h5⟩:=(show xk P w H h a (.dT kvs) from V9 ok e)
 refine⟨z,y,xs,r,o,es,ep,h1,h2,h3,h4,fun x hx=>?_,h5⟩
 have all:∀{l:List (List Key × V)} {m:List (List Key × Addr × Value)},KT H l m→∀x∈m,(tupleKind (xp P w)).is h x.1 x.2.1:=by
  intro l m q
  induction q with
  | nil=>intro x hx;exact nomatch hx
  | @cons p q ps qs hq t ih=>
   intro x hx
   rcases List.mem_cons.mp hx with e | hx
   ·subst e
    exact uh ok (by rw[←hq.1];exact hq.2.1)
   ·exact ih x hx
 exact all r x hx
theorem Gu {kvs:List (List Key × V)} (ok:bC P w H h) (e:H a=some (.dT kvs)):kvs.length≤sizeLine∧(a == sysModules)=false∧
  ∃xs,KT H kvs xs∧h.DictOfH (tupleKind (xp P w)) a xs:=tK ok (.inl e)
end
noncomputable def vq (H:Hp) (a:Addr) (y:V) (r:Option V):Prop:=
 (∃kvs k,Rd H a (.dK kvs)∧y=kV k∧r=vB kvs k)∨∃kvs k b,Rd H a (.dT kvs)∧y=.ref b∧H b=some (.tup (k.map kV))∧r=vB kvs k
noncomputable def Qk (H:Hp) (a:Addr) (y v:V) (H':Hp):Prop:=
 (∃kvs k,H a=some (.dK kvs)∧y=kV k∧kvs.length < sizeLine∧H'=upd H a (.dK (putK kvs k v)))∨
 ∃kvs k b,H a=some (.dT kvs)∧y=.ref b∧H b=some (.tup (k.map kV))∧kvs.length < sizeLine∧H'=upd H a (.dT (putK kvs k v))
theorem vq.k {H:Hp} {a:Addr} {kvs:List (Key × V)} {k:Key} (e:H a=some (.dK kvs)):vq H a (kV k) (vB kvs k):=.inl ⟨kvs,k,.inl e,rfl,rfl⟩
theorem Qk.k {H:Hp} {a:Addr} {kvs:List (Key × V)} {k:Key} {v:V} (e:H a=some (.dK kvs)) (hl:kvs.length < sizeLine):Qk H a (kV k) v (upd H a (.dK (putK kvs k v))):=.inl ⟨kvs,k,e,rfl,hl,rfl⟩
section
variable {X:Cx} {pins:List (Addr × Obj)} {σ:St} {H:Hp} {s:Shared} {a:Addr} {y v:V} {u r:Value} {o:Option V} {A:Around} {E:Value→Shared→Prop}
theorem Inv.big (I:Inv X pins σ H s):sysModules < s.heap.objs.size:=by
 have h:mainGlobals < s.heap.objs.size:=(I.mod.glob.keeps I.bk).lt
 exact Nat.lt_trans (by decide) h
theorem Ql {Q:Value→Shared→Prop} (hu:A.units + 1 < cLine) (I:Inv X pins σ H s) (g:vq H a y (some v)) (ry:RelV y u) (h:∀w' s',Inv X pins σ H s'→RelV v w'→Q w' s') :
  wpAny (model X.prog X.w) A (getItem (.ref a) u) Q E s:=by
 rcases g with ⟨kvs,k,e,ey,l⟩ | ⟨kvs,k,b,e,ey,eb,l⟩
 ·subst ey
  obtain⟨z,hd,vs,rel,dd⟩:=rB I.jj e
  obtain⟨w',hw,rw'⟩:=yK.some_of (v:=v) (o:=valueAt vs k) (by rw[l];exact rel.val k)
  exact wpAny_getItem_of (tU ry) dd.mapOf hw (h w' _ (I.tok _) rw')
 ·subst ey
  cases (show u=Value.ref b from ry)
  obtain⟨z,hd,xs,rel,dd⟩:=tK I.jj e
  obtain⟨w',hw,rw'⟩:=yK.some_of (v:=v) (o:=(atKey xs k).map (·.2)) (by rw[l];exact rel.val k)
  obtain⟨p,hp,hp2⟩:=Option.map_eq_some_iff.mp hw
  refine wpAny_getItem_heap (tupleKind_room_in1 hu) (uh I.jj eb) dd hp ?_
  rw[hp2]
  exact h w' _ (I.tok _) rw'
theorem HA {Q:Value→Shared→Prop} (hu:A.units + 1 < cLine) (I:Inv X pins σ H s) (g:vq H a y o) (ry:RelV y u) (h:∀s',Inv X pins σ H s'→Q (.bool o.isSome) s') :
  wpAny (model X.prog X.w) A (compareOp .In u (.ref a)) Q E s:=by
 rcases g with ⟨kvs,k,e,ey,l⟩ | ⟨kvs,k,b,e,ey,eb,l⟩
 ·subst ey
  obtain⟨z,hd,vs,rel,dd⟩:=rB I.jj e
  refine wpAny_in_of (tU ry) hd dd.mapOf ?_
  rw[←(rel.val k).bV,←l]
  exact h _ (I.tok _)
 ·subst ey
  cases (show u=Value.ref b from ry)
  obtain⟨z,hd,xs,rel,dd⟩:=tK I.jj e
  refine wpAny_in_heap (tupleKind_room_in1 hu) (uh I.jj eb) hd dd ?_
  have q:=(rel.val k).bV
  rw[Option.isSome_map] at q
  rw[←q,←l]
  exact h _ (I.tok _)
theorem KH {Q:Value→Shared→Prop} (hu:A.units + 1 < cLine) (I:Inv X pins σ H s) (g:vq H a y o) (ry:RelV y u) (h:∀s',Inv X pins σ H s'→Q (.bool (!o.isSome)) s') :
  wpAny (model X.prog X.w) A (compareOp .NotIn u (.ref a)) Q E s:=by
 rcases g with ⟨kvs,k,e,ey,l⟩ | ⟨kvs,k,b,e,ey,eb,l⟩
 ·subst ey
  obtain⟨z,hd,vs,rel,dd⟩:=rB I.jj e
  refine wpAny_notIn_of (tU ry) hd dd.mapOf ?_
  rw[←(rel.val k).bV,←l]
  exact h _ (I.tok _)
 ·subst ey
  cases (show u=Value.ref b from ry)
  obtain⟨z,hd,xs,rel,dd⟩:=tK I.jj e
  refine wpAny_notIn_heap (tupleKind_room_in1 hu) (uh I.jj eb) hd dd ?_
  have q:=(rel.val k).bV
  rw[Option.isSome_map] at q
  rw[←q,←l]
  exact h _ (I.tok _)
theorem Zr {h':Heap} {t':Nat} {ob:HO} (I:Inv X pins σ H s) (mu:Gq (H a)) (hs:Heap.SameBut a s.heap h') (he:∃q,h'.get? a=some q) (new:xk X.prog X.w (upd H a ob) h' a ob) :
  Inv X pins σ (upd H a ob) { s with heap:=h',toks:=t' }:=
 I.write (x:=a) (e:=a) mu (.inl rfl) (fun b q hb z=>(hs.2 b hb).trans z) he new
theorem Ji {P:Program} {w:World} {H':Hp} {h':Heap} {kvs:List (Key × V)} {vs:List (Key × Value)} (z:kvs.length≤sizeLine) (hd:(a == sysModules)=false) (rel:KV kvs vs) (dd:h'.DictOf (xp P w) a vs) :
  xk P w H' h' a (.dK kvs):=⟨z,hd,vs,rel,dd⟩
theorem Qs {H':Hp} {Q:Unit→Shared→Prop} (hu:A.units + 1 < cLine) (I:Inv X pins σ H s) (g:Qk H a y v H') (ry:RelV y u) (rv:RelV v r) (h:∀s',Inv X pins σ H' s'→Q () s') :
  wpAny (model X.prog X.w) A (setItem (.ref a) u r) Q E s:=by
 rcases g with ⟨kvs,k,e,ey,l,eH⟩ | ⟨kvs,k,b,e,ey,eb,l,eH⟩
 ·subst ey eH
  obtain⟨z,hd,vs,rel,dd⟩:=Je I.jj e
  have hz:vs.length≤sizeLine:=by rw[←rel.length];exact z
  have hl:(putK kvs k v).length≤sizeLine:=by have:=uH kvs k v;omega
  refine wpAny_setItem_pairs (hsz:=hz) (tU ry) dd fun h' dd' hs=>h _ ?_
  have he:∃q,h'.get? a=some q:=let ⟨q,_,_,hq,_⟩:=dd';⟨q,hq⟩
  exact Zr I (by rw[e];exact True.intro) hs he (Ji hl hd (rel.put k rv) dd')
 ·subst ey eH
  cases (show u=Value.ref b from ry)
  obtain⟨z,hd,xs,rel,dd⟩:=Gu I.jj e
  have hz:xs.length≤sizeLine:=by rw[←Paired.length rel];exact z
  have hl:(putK kvs k v).length≤sizeLine:=by have:=uH kvs k v;omega
  refine wpAny_setItem_heap (hsz:=hz) (tupleKind_room_in1 hu) (uh I.jj eb) dd fun h' dd' hs=>h _ ?_
  obtain⟨q,es,ep,hq,h2,h3,h4,_,h5⟩:=dd'
  refine Zr I (by rw[e];exact True.intro) hs ⟨q,hq⟩ ⟨hl,hd,_,(rel.put k eb rv).keeps fun c ys ec=>?_,q,es,ep,hq,h2,h3,h4,h5⟩
  rw[qW (lV ec e (fun z=>nomatch z))]
  exact ec
end
section
variable {X:Cx} {pins:List (Addr × Obj)} {σ:St} {H:Hp} {s:Shared} {a:Addr} {kvs:List (Key × V)} {k:Key} {u:Value} {A:Around} {E:Value→Shared→Prop}
end
noncomputable def Gk (i:Expr):Prop:=∀ov iv,subscripted i false ov iv=operate [ov,iv] (getItem ov iv)
theorem VJ {prog:Program} {w:World} {A:Around} {E:Value→Shared→Prop} {s:Shared} {env:Env} {value slice:Expr} {pos:Pos} {T id:String} {Q:Value→Shared→Prop}
  (hl:typeLookup (.type T) "__getitem__" = pure (some (.builtin id))) (hs:Gk slice)
  (h:wpAny (model prog w) A (eval value env) (fun o s₁=>wpAny (model prog w) A (eval slice env) (fun i s₂=>s₂.TypeIs o T∧wpAny (model prog w) A (getItem o i) Q E s₂) E s₁) E s) :
  wpAny (model prog w) A (eval (.Subscript value slice pos) env) Q E s:=by
 refine Subscript_ (wpAny_mono h (fun o s₁ h₁=>wpAny_mono h₁ (fun i s₂ h₂=>?_) fun _ _ x=>x) fun _ _ x=>x)
 obtain⟨hT,h₂⟩:=h₂
 unfold subscriptTail
 refine wpAny_bind ?_
 rw[getitemInPython_of_ne hT.not_modules]
 refine wpAny_bind (wpAny_specialOf hT hl ?_)
 have fin:wpAny (model prog w) A (subscripted slice false o i) (fun r s₃=>wpAny (model prog w) A (letTemporaryGo value o r >>= fun _=>pure r) Q E s₃) E s₂:=by
  rw[hs o i]
  exact wpAny_operating (wpAny_mono h₂ (fun r s₃ h₃=>wpAny_bind (wpAny_letTemporaryGo (wpAny_pure h₃))) fun _ _ x=>x)
 first
  | exact wpAny_pure (wpAny_bind fin)
  | exact wpAny_bind (wpAny_pure (wpAny_bind fin))
  | exact wpAny_bind fin
theorem iD {X:Cx} {pins:List (Addr × Obj)} {σ:St} {H:Hp} {s:Shared} {a:Addr} {y:V} {o:Option V} (I:Inv X pins σ H s) (g:vq H a y o):s.TypeIs (.ref a) "dict":=by
 rcases g with ⟨kvs,k,e,_,_⟩ | ⟨kvs,k,b,e,_,_,_⟩
 ·obtain⟨_,_,vs,_,dd⟩:=rB I.jj e
  exact dd.typeIs
 ·obtain⟨_,_,xs,_,dd⟩:=tK I.jj e
  exact dd.typeIs
noncomputable def Hf (td ty:TE):TE:=fun σ H Q=>td σ H fun x H1=>ty σ H1 fun y H2=>∃a v,x=.ref a∧vq H2 a y (some v)∧Q v H2
noncomputable def BB (ty td:TE):TE:=fun σ H Q=>ty σ H fun y H1=>td σ H1 fun x H2=>∃a o,x=.ref a∧vq H2 a y o∧Q (.bl o.isSome) H2
noncomputable def VX (ty td:TE):TE:=fun σ H Q=>ty σ H fun y H1=>td σ H1 fun x H2=>∃a o,x=.ref a∧vq H2 a y o∧Q (.bl (!o.isSome)) H2
noncomputable def Pc (td ty tv:TE):TS:=fun D σ H=>tv σ H fun v H1=>td σ H1 fun x H2=>ty σ H2 fun y H3=>∃a H4,x=.ref a∧Qk H3 a y v H4∧D.nx σ H4
noncomputable def Pm (td ty tv:TE) (rd:V→V→Hp→VK→Prop):TS:=fun D σ H=>td σ H fun x H1=>ty σ H1 fun y H2=>∃a v,x=.ref a∧vq H2 a y (some v)∧
 tv σ H2 fun y2 H3=>rd v y2 H3 fun z H4=>∃H5,Qk H4 a y z H5∧D.nx σ H5
noncomputable def Pd (td ty:TE):TS:=fun D σ H=>td σ H fun x H1=>ty σ H1 fun y H2=>∃a kvs k,x=.ref a∧H2 a=some (.dK kvs)∧y=kV k∧(vB kvs k).isSome=true∧D.nx σ (upd H2 a (.dK (Ja kvs k)))
section
variable {X:Cx} {o i e value:Expr} {pos pos' tpos:Pos} {td ty tv:TE}
theorem yk (hu:X.A.units + 1 < cLine) (ho:PE X o td) (hi:PE X i ty) (hs:Gk i):PE X (.Subscript o i pos) (Hf td ty):=by
 intro pins s σ H Q I h
 refine VJ PySem.F.slot_dict_getitem.lookup hs (jO (ho pins s σ H _ I h) fun u s1 ⟨x,H1,I1,rx,q1⟩=>jO (hi pins s1 σ H1 _ I1 q1) fun iv s2 ⟨y,H2,I2,ry,a,v,ex,g,q2⟩=>?_)
 subst ex
 obtain rfl:u=Value.ref a:=rx
 exact⟨iD I2 g,Ql hu I2 g ry fun w' s3 I3 rw'=>⟨v,H2,I3,rw',q2⟩⟩
theorem Xm (hu:X.A.units + 1 < cLine) (hi:PE X i ty) (ho:PE X o td):PC X .In i o (BB ty td):=by
 intro pins s σ H Q I h
 refine jO (hi pins s σ H _ I h) fun iv s1 ⟨y,H1,I1,ry,q1⟩=>jO (ho pins s1 σ H1 _ I1 q1) fun u s2 ⟨x,H2,I2,rx,a,ov,ex,g,q2⟩=>?_
 subst ex
 obtain rfl:u=Value.ref a:=rx
 exact HA hu I2 g ry fun s3 I3=>⟨.bl ov.isSome,H2,I3,rfl,q2⟩
theorem uo (hu:X.A.units + 1 < cLine) (hi:PE X i ty) (ho:PE X o td):PC X .NotIn i o (VX ty td):=by
 intro pins s σ H Q I h
 refine jO (hi pins s σ H _ I h) fun iv s1 ⟨y,H1,I1,ry,q1⟩=>jO (ho pins s1 σ H1 _ I1 q1) fun u s2 ⟨x,H2,I2,rx,a,ov,ex,g,q2⟩=>?_
 subst ex
 obtain rfl:u=Value.ref a:=rx
 exact KH hu I2 g ry fun s3 I3=>⟨.bl (!ov.isSome),H2,I3,rfl,q2⟩
end
theorem Jo {P:Program} {w:World} {H:Hp} (h:Heap) (hb:sysModules < h.objs.size):xk P w H (h.push { cls:=.type "dict",data:=.dict #[] }) h.objs.size (.dK []):=
 ⟨Nat.zero_le _,beq_eq_false_iff_ne.mpr (Ne.symm (Nat.ne_of_lt hb)),[],.nil,Heap.DictOf.new h⟩
noncomputable def YM:TE:=fun _ H Q=>∀p,H p=none→Q (.ref p) (upd H p (.dK []))
noncomputable def BP:TE:=fun _ H Q=>∀p,H p=none→Q (.ref p) (upd H p (.dT []))
section
variable {X:Cx} {pos:Pos}
theorem Xu:PE X (.Dict [] [] pos) YM:=fun pins s σ H Q I h=>
 wpAny_Dict_empty ⟨.ref s.heap.objs.size,_,I.laid (a:=s.heap.objs.size) (o:=.dK []) (t':=s.toks) (fun _ _ q=>Heap.get?_push_of_some _ q) (Nat.le_refl _) (Jo s.heap I.big),rfl,h _ (I.jj.fresh (Nat.le_refl _))⟩
end
noncomputable def a9:List (TE × TE)→St→Hp→(List (V × V)→Hp→Prop)→Prop
 | [],_,H,Q=>Q [] H
 | (tk,tv) :: r,σ,H,Q=>tk σ H fun x H1=>tv σ H1 fun y H2=>a9 r σ H2 fun ps H3=>Q ((x,y) :: ps) H3
noncomputable abbrev VV:List (V × V)→List (Value × Value)→Prop:=Paired fun p q=>RelV p.1 q.1∧RelV p.2 q.2
noncomputable def FL (X:Cx) (pos:Pos) (keys:List (Option Expr)) (values:List Expr) (trs:List (TE × TE)):Prop:=
 ∀(pins:List (Addr × Obj)) (s:Shared) (σ:St) (H:Hp) (Q:List (V × V)→Hp→Prop),Inv X pins σ H s→a9 trs σ H Q→
  wpAny (model X.prog X.w) X.A (evalPairs (pairTrees keys values X.env pos)) (fun vs s'=>∃ps H',Inv X pins σ H' s'∧VV ps vs∧Q ps H') X.xe s
noncomputable def W8 (kvs more:List (Key × V)):List (Key × V):=more.foldl (fun acc kv=>putK acc kv.1 kv.2) kvs
noncomputable def Po (trs:List (TE × TE)):TE:=fun σ H Q=>∀p,H p=none→a9 trs σ (upd H p (.dK [])) fun ps H2=>H2 p=some (.dK [])∧∃kvs:List (Key × V),ps=kvs.map (fun kv=>(kV kv.1,kv.2))∧kvs.length≤15∧Q (.ref p) (upd H2 p (.dK (W8 [] kvs)))
structure M1 (X:Cx) (o:Expr) (m:Str) (apos:Pos) (e:Expr) (cpos:Pos):Prop where
 base:attributeBase o m X.env (eval o X.env)=eval o X.env
 nN:((backTo cpos (starEach [e] X.env)).all (fun x=>!x.1) && (backToKw cpos (keywordEach [] X.env)).all (fun x=>x.1.isSome)
  && decide (([e]:List Expr).length + ([]:List Keyword).length + (if ([]:List Keyword).isEmpty then 0 else 1) < 30))=true
 line:(apos.endLine == cpos.line)=true
 trees:backTo cpos (starEach [e] X.env)=[(false,eval e X.env)]
structure M2 (X:Cx) (o:Expr) (m:Str) (apos:Pos) (e f:Expr) (cpos:Pos):Prop where
 base:attributeBase o m X.env (eval o X.env)=eval o X.env
 nN:((backTo cpos (starEach [e,f] X.env)).all (fun x=>!x.1) && (backToKw cpos (keywordEach [] X.env)).all (fun x=>x.1.isSome)
  && decide (([e,f]:List Expr).length + ([]:List Keyword).length + (if ([]:List Keyword).isEmpty then 0 else 1) < 30))=true
 line:(apos.endLine == cpos.line)=true
 trees:backTo cpos (starEach [e,f] X.env)=[(false,eval e X.env),(false,eval f X.env)]
noncomputable def Ha (H:Hp) (a:Addr):Prop:=(∃kvs,Rd H a (.dK kvs))∨∃kvs,Rd H a (.dT kvs)
section
variable {X:Cx} {pins:List (Addr × Obj)} {σ:St} {H:Hp} {s:Shared} {a:Addr} {y d:V} {u r:Value} {o:Option V} {A:Around} {E:Value→Shared→Prop}
theorem WH {Q:Value→Shared→Prop} (hu:A.units + 1 < cLine) (I:Inv X pins σ H s) (g:vq H a y o) (ry:RelV y u) (h:∀w' s',Inv X pins σ H s'→RelV (o.getD .non) w'→Q w' s') :
  wpAny (model X.prog X.w) A (call (.builtin "dict.get") [.ref a,u]) Q E s:=by
 rcases g with ⟨kvs,k,e,ey,l⟩ | ⟨kvs,k,b,e,ey,eb,l⟩
 ·subst ey
  obtain⟨z,hd,vs,rel,dd⟩:=rB I.jj e
  refine call_meetsIn PySem.F.slot_dict_get dd.typeIs PySem.F.entry_dict_get (PySem.F.args_dict_get_2 _ _) (meets_dict_get (xp X.prog X.w) a (tU ry) hd) ⟨_,dd.mapOf,h _ _ (I.tok _) ?_⟩
  rw[l]
  exact(rel.val k).getD rfl
 ·subst ey
  cases (show u=Value.ref b from ry)
  obtain⟨z,hd,xs,rel,dd⟩:=tK I.jj e
  refine call_meetsIn PySem.F.slot_dict_get dd.typeIs PySem.F.entry_dict_get (PySem.F.args_dict_get_2 _ _) (meetsH_dict_get (tupleKind (xp X.prog X.w)) a b hd) ⟨tupleKind_room_in1 hu,k,xs,uh I.jj eb,dd,h _ _ (I.tok _) ?_⟩
  rw[l]
  exact(rel.val k).getD rfl
end
noncomputable def BG (td ty:TE):TE:=fun σ H Q=>td σ H fun x H1=>∃a,x=.ref a∧Ha H1 a∧ty σ H1 fun y H2=>∃o,vq H2 a y o∧Q (o.getD .non) H2
noncomputable def BH (td ty tx:TE):TE:=fun σ H Q=>td σ H fun x H1=>∃a,x=.ref a∧Ha H1 a∧ty σ H1 fun y H2=>tx σ H2 fun z H3=>∃o,vq H3 a y o∧Q (o.getD z) H3
noncomputable def BF (td ty:TE):TE:=fun σ H Q=>td σ H fun x H1=>∃a,x=.ref a∧Ha H1 a∧ty σ H1 fun y H2=>∃kvs k v,H2 a=some (.dK kvs)∧y=kV k∧vB kvs k=some v∧Q v (upd H2 a (.dK (Ja kvs k)))
noncomputable def BM (td ty tx:TE):TE:=fun σ H Q=>td σ H fun x H1=>∃a,x=.ref a∧Ha H1 a∧ty σ H1 fun y H2=>tx σ H2 fun z H3=>∃kvs k,H3 a=some (.dK kvs)∧y=kV k∧
 (∀v,vB kvs k=some v→Q v (upd H3 a (.dK (Ja kvs k))))∧(vB kvs k=none→Q z H3)
section
variable {X:Cx} {o e f:Expr} {apos cpos:Pos} {td ty tx:TE}
end
section
variable {X:Cx} {pins:List (Addr × Obj)} {σ:St} {H:Hp} {s:Shared} {a:Addr} {kvs:List (Key × V)} {A:Around} {E:Value→Shared→Prop}
theorem Js {Q:Value→Shared→Prop} (I:Inv X pins σ H s) (e:Rd H a (.dK kvs)) (h:∀p s',H p=none→Inv X pins σ (upd H p (.dK kvs)) s'→Q (.ref p) s'):wpAny (model X.prog X.w) A (call (.type "dict") [.ref a]) Q E s:=by
 obtain⟨z,hd,vs,rel,dd⟩:=rB I.jj e
 refine kt_call_dict hd dd (by rw[←rel.length];exact z) fun h' dd' hs=>?_
 refine h _ _ (I.jj.fresh (Nat.le_refl _)) (I.laid (a:=s.heap.objs.size) (o:=.dK kvs) (t':=s.toks) (fun b q hq=>?_) (Nat.le_refl _) (Ji z (beq_eq_false_iff_ne.mpr (Ne.symm (Nat.ne_of_lt I.big))) rel dd'))
 exact(hs.2 b (Nat.ne_of_lt (Heap.lt_size hq))).trans (Heap.get?_push_of_some _ hq)
end
section
variable {X:Cx} {pins:List (Addr × Obj)} {σ:St} {H:Hp} {s:Shared} {a:Addr} {y:V} {u:Value} {A:Around} {E:Value→Shared→Prop}
end
end L2
namespace L2
open PySem PySem.Spec PyProof.Rows
section
variable {X:Cx}
end
section
variable {κ:Type} [DecidableEq κ]
theorem ZR:∀{l:List κ} {k:κ},l.Nodup→¬k∈l→(l ++ [k]).Nodup
 | [],k,_,_=>by simp
 | a :: r,k,h,hk=>by
  obtain⟨h1,h2⟩:=List.nodup_cons.mp h
  show (a :: (r ++ [k])).Nodup
  refine List.nodup_cons.mpr ⟨fun m=>?_,ZR h2 fun m=>hk (List.mem_cons.mpr (Or.inr m))⟩
  rcases List.mem_append.mp m with q | q
  ·exact h1 q
  ·exact hk (List.mem_cons.mpr (Or.inl (List.mem_singleton.mp q).symm))
end
end L2
namespace L2
open PySem PySem.Spec PyProof.Rows
section
variable {X:Cx}
theorem cZ {pos:Pos}:PE X (.Dict [] [] pos) (fun _ H Q=>Nw H (.dK []) Q):=Xu.mono fun _ _ _ q=>q.el
theorem de:vQ X (.type "dict") (fun xs H Q=>∃a kvs,xs=[.ref a]∧H a=some (.dK kvs)∧Nw H (.dK kvs) Q):=by
 intro pins s σ H xs us Q I r h
 obtain⟨a,kvs,rfl,e,q⟩:=h
 obtain⟨u,rfl,ru⟩:=vals1 r
 cases ru
 exact Js I (.inl e) fun p s' hp I'=>⟨.ref p,_,I',rfl,q.el p hp⟩
theorem J5 (hu:X.A.units + 1 < cLine):Qw X "dict.get" (fun x vs H Q=>∃a kvs k,x=.ref a∧vs=[kV k]∧H a=some (.dK kvs)∧Q ((vB kvs k).getD .non) H):=by
 intro pins s σ H x vs v us Q I rx rv h
 obtain⟨a,kvs,k,rfl,rfl,e,q⟩:=h
 cases rx
 obtain⟨u,rfl,r1⟩:=vals1 rv
 exact WH hu I (vq.k e) r1 fun w' s' I' rw'=>⟨_,H,I',rw',q⟩
theorem kC (hu:X.A.units + 1 < cLine):Ko X (fun o i v H Q=>∃a kvs k,o=.ref a∧i=kV k∧H a=some (.dK kvs)∧kvs.length < sizeLine∧Ch H a (.dK (putK kvs k v)) Q):=by
 intro pins s σ H o i v ov iv u Q I ro ri rv h
 obtain⟨a,kvs,k,rfl,rfl,e,l,q⟩:=h
 cases ro
 exact Qs hu I (Qk.k e l) ri rv fun s' I'=>⟨_,I',q.el⟩
end
end L2
namespace L2
open PyProof.Rows PySem PySem.Spec
section
variable {w:World} {A:Around} {E:Value→Shared→Prop} {s:Shared} {prog:Program}
end
noncomputable def iM:List Str→List Str→Nat
 | _,[]=>0
 | seen,z :: r=>(if z∈seen then 0 else 1) + iM (z :: seen) r
section
variable {w:World} {A:Around} {E:Value→Shared→Prop} {prog:Program}
theorem aT {K:Type} [DecidableEq K] {knd:KeyKind prog w K} {h h':Heap} {a it:Addr} {S:K→Bool} {n:Nat} (x:Heap.SetOf knd h a S n) (hb:Heap.SameBut it h h') (hne:a≠it):Heap.SetOf knd h' a S n:=by
 obtain⟨o,es,ep,t,ho,r⟩:=x
 exact⟨o,es,ep,t,(hb.2 a hne).trans ho,r⟩
theorem XH {K:Type} [DecidableEq K] {knd:KeyKind prog w K} {h:Heap} {a:Addr} {S S':K→Bool} {n:Nat} (x:Heap.SetOf knd h a S n) (e:∀y,S' y=S y):Heap.SetOf knd h a S' n:=by
 have:S'=S:=funext e
 rw[this];exact x
theorem XB {a it l : Addr} {items : Array Value} (hh : A.handled = none) (hia : it ≠ a) (hli : l ≠ it) (hla : l ≠ a) : ∀ (rest : List Str) (i : Nat) (s : Shared) (seen : List Str) (n : Nat) (R : Result → Shared → Prop), s.heap.IsListIter it l i → s.heap.IsList l items → items.size = i + rest.length → (∀ (j : Nat) (z : Str), rest[j]? = some z → ∃ t, items[i + j]? = some (.str z t)) →
    s.heap.SetOf (strKind prog w) a (fun y => decide (y ∈ seen)) n → n + rest.length < 1000 →
    (∀ h' tk S', (∀ b o, b ≠ it → b ≠ a → s.heap.get? b = some o → h'.get? b = some o) → h'.SetOf (strKind prog w) a S' (n + iM seen rest) → R (.ok (.ret .none)) { s with heap := h', toks := tk }) →
    codeAny (model prog w) A (.builtin "set.update.loop" ⟨[.ref a, .ref it], []⟩) R s := by
  intro rest
  induction rest with
  | nil =>
    intro i s seen n R h1 h2 h3 h4 h5 h6 k
    refine codeAny_builtin F.entry_set_update_loop ?_
    show wpAny _ _ (pyNext (.ref it) >>= _) _ _ s
    refine wpAny_bind (wpAny_pyNext_list_end ?_ h1 h2 (by rw [Array.getElem?_eq_none_iff]; simp at h3; omega) fun h' hx => ?_)
    · exact hh
    · refine wpAny_pure (k h' s.toks (fun y => decide (y ∈ seen)) (fun b o hb _ e => hx b o hb e) ?_)
      obtain ⟨o, es, ep, t, ho, q⟩ := h5
      exact ⟨o, es, ep, t, hx _ _ (Ne.symm hia) ho, q⟩
  | cons z r ih =>
    intro i s seen n R h1 h2 h3 h4 h5 h6 k
    obtain ⟨t, ht⟩ := h4 0 z rfl
    refine codeAny_builtin F.entry_set_update_loop ?_
    show wpAny _ _ (pyNext (.ref it) >>= _) _ _ s
    refine wpAny_bind (wpAny_pyNext_list_item h1 h2 ht fun h' hi' hb => ?_)
    dsimp only
    unfold setAdd
    refine wpAny_bind (wpAny_holding (wpAny_holding (wpAny_bind ((strKind prog w).pyHash (strKind_is prog w z t) ?_))))
    have h5' := aT h5 hb (Ne.symm hia)
    have hl' : h'.IsList l items := by
      obtain ⟨o, ho, q⟩ := h2
      exact ⟨o, (hb.2 l hli).trans ho, q⟩
    refine wpAny_setAddHashed_of (s := { s with heap := h', toks := s.toks + 1 }) (strKind_is prog w z t) rfl h5' (by simp only [List.length_cons] at h6; unfold scanBound; omega) fun h2' hb2 h52 => ?_
    refine wpAny_pure ⟨Code.quiet_builtin _ (by decide +kernel), ?_⟩
    have hl2 : h2'.IsList l items := by
      obtain ⟨o, ho, q⟩ := hl'
      exact ⟨o, (hb2.2 l hla).trans ho, q⟩
    have hi2 : h2'.IsListIter it l (i + 1) := by
      obtain ⟨o, ho, q⟩ := hi'
      exact ⟨o, (hb2.2 it hia).trans ho, q⟩
    have h53 : h2'.SetOf (strKind prog w) a (fun y => decide (y ∈ z :: seen)) (n + if z ∈ seen then 0 else 1) := by
      have e : (if decide (z ∈ seen) = true then n else n + 1) = n + if z ∈ seen then 0 else 1 := by by_cases q : z ∈ seen <;> simp [q]
      rw [← e]
      exact XH h52 fun y => by by_cases q : y = z <;> by_cases q' : y ∈ seen <;> simp [q, q']
    refine ih (i + 1) { s with heap := h2', toks := s.toks + 1 } (z :: seen) _ R hi2 hl2 (by simp only [List.length_cons] at h3; omega) (fun j y hj => ?_) h53 ?_ fun h3' tk S' q1 q2 => ?_
    · obtain ⟨t', ht'⟩ := h4 (j + 1) y (by simpa using hj)
      exact ⟨t', by rw [← ht']; congr 1; omega⟩
    · simp only [List.length_cons] at h6
      split <;> omega
    · refine k h3' tk S' (fun b o b1 b2 e => q1 b o b1 b2 ((hb2.2 b b2).trans ((hb.2 b b1).trans e))) ?_
      rw [show n + iM seen (z :: r) = n + (if z ∈ seen then 0 else 1) + iM (z :: seen) r by simp only [iM]; omega]
      exact q2
set_option maxHeartbeats 1000001 in
theorem QT {s : Shared} {a l : Addr} {led : Bool} {items : Array Value} {zs : List Str} {Q : Fin → Shared → Prop} (hh : A.handled = none) (ha : s.heap.get? a = some { cls := .type "set", dict := none, data := .set #[] 0 (.fresh 0 0 led) }) (hl : s.heap.IsList l items) (hz : items.size = zs.length) (hi : ∀ (j : Nat) (z : Str), zs[j]? = some z → ∃ t, items[j]? = some (.str z t)) (hn : zs.length < 1000) (hla : l ≠ a)
    (h : ∀ h' tk S', (∀ b o, b ≠ a → s.heap.get? b = some o → h'.get? b = some o) → h'.SetOf (strKind prog w) a S' (iM [] zs) → Q (.done (.ret .none)) { s with heap := h', toks := tk }) : wpAny (model prog w) A (Builtin.«set.__init__» ⟨[.ref a, .ref l], []⟩) Q E s := by
  have hT : Shared.TypeIs s (.ref a) "set" := ⟨_, ha, rfl⟩
  unfold Builtin.«set.__init__» noKeywords
  obtain ⟨ol, hol, hcl, nl, hdl⟩ := id hl
  have hTl : Shared.TypeIs s (.ref l) "list" := ⟨ol, hol, hcl⟩
  wp_walk
  refine wpAny_of_eq F.sub_list_set (wpAny_isInstance hTl F.sub_list_frozenset ?_)
  (rw [if_neg Bool.false_ne_true])
  refine wpAny_bind (wpAny_typeOf hTl ?_)
  rw [if_neg (by decide)]
  refine wpAny_bind (wpAny_pyIter_list hl ?_)
  generalize hoi : ({ cls := .type "list_iterator", data := .fields #[.ref l, .int 0 0] } : Obj) = oi
  show wpAny _ _ (runValue (.builtin "set.update.loop" ⟨[.ref a, .ref s.heap.objs.size], []⟩) >>= _) _ _ { s with heap := s.heap.push oi }
  have sa : a < s.heap.objs.size := Heap.lt_size ha
  have sl : l < s.heap.objs.size := Heap.lt_size hol
  have k0 : ∀ b o, s.heap.get? b = some o → (s.heap.push oi).get? b = some o := fun b o e => Heap.get?_push_of_some _ e
  refine wpAny_bind (wpAny_runValue (XB hh (Nat.ne_of_gt sa) (Nat.ne_of_lt sl) hla zs 0 { s with heap := s.heap.push oi } [] 0 _ ?_ ⟨ol, k0 _ _ hol, hcl, nl, hdl⟩ (by omega) (fun j z e => by simpa using hi j z e) ⟨_, #[], 0, _, k0 _ _ ha, ⟨rfl, rfl, rfl⟩, rfl, fun e he => by simp at he, fun y => by simp, by unfold scanBound; simp, rfl, rfl⟩ (by omega) fun h' tk S' q1 q2 => ?_))
  · exact ⟨oi, Heap.get?_push_size _ (by rw [← hoi]; rfl), by rw [← hoi], by rw [← hoi]; rfl⟩
  · refine wpAny_pure (wpAny_pure (h h' tk S' (fun b o hb e => q1 b o (Nat.ne_of_lt (Heap.lt_size e)) hb (k0 b o e)) ?_))
    rw [Nat.zero_add] at q2; exact q2
set_option maxHeartbeats 1000001 in
/-- what a call may come to: a value, or an exception -/
theorem wants_or {Q : Value → Shared → Prop} {E : Value → Shared → Prop} {r : Result} {s : Shared} (h : wants Q E r s) : (∃ v, r = .ok (.ret v) ∧ Q v s) ∨ ∃ e, r = .error e ∧ E e s := by
  rcases r with e | f
  · exact .inr ⟨e, rfl, h⟩
  · cases f <;> first | exact .inl ⟨_, rfl, h⟩ | exact h.elim
set_option maxHeartbeats 1000001 in
theorem Qm {s : Shared} {l : Addr} {items : Array Value} {zs : List Str} {Q : Value → Shared → Prop} (hh : A.handled = none) (hl : s.heap.IsList l items) (hz : items.size = zs.length) (hi : ∀ (j : Nat) (z : Str), zs[j]? = some z → ∃ t, items[j]? = some (.str z t)) (hn : zs.length < 1000)
    (h : ∀ h' tk a S', s.heap.objs.size ≤ a → (∀ b o, s.heap.get? b = some o → h'.get? b = some o) → h'.SetOf (strKind prog w) a S' (iM [] zs) → Q (.ref a) { s with heap := h', toks := tk }) : wpAny (model prog w) A (call (.type "set") [.ref l]) Q E s := by
  have C := F.called_set
  obtain ⟨_, _, m⟩ := C.mro
  obtain ⟨c1, c2, c3, c4, c5⟩ : _ ∧ _ ∧ _ ∧ _ ∧ _ := ⟨C.made, C.sub, C.notType, C.canCreate, F.typeCall_set_1 (.ref l)⟩
  have up : ∀ {o : Obj} {b : Addr} {u : Obj}, s.heap.get? b = some u → (s.heap.push o).get? b = some u := fun e => Heap.get?_push_of_some _ e
  have lo : ∀ {b : Addr} {u : Obj}, s.heap.get? b = some u → b ≠ s.heap.objs.size := fun e => Nat.ne_of_lt (Heap.lt_size e)
  obtain ⟨ol, gl, dl⟩ := hl
  refine wpAny_call (codeAny_of_tree (?_ : wpAny _ _ (callAny (.type "set") _) _ _ _))
  refine wpAny_pure ⟨Code.quiet_builtin _ (by decide +kernel), codeAny_builtin F.entry_type_call (Around.under_plain (weight_type_call_type "set" [.ref l] []) rfl ▸ ?_)⟩
  repeat any_goals first | assumption | wp_step
  refine codeAny_mono (code_set_new_1 _ (E := E) (Q₁ := fun v s1 => v = .ref s.heap.objs.size ∧ ∃ led, s1 = { s with heap := s.heap.push { cls := .type "set", data := .set #[] 0 (.fresh 0 0 led) } }) fun led => ⟨rfl, led, rfl⟩) fun r s1 hr => ?_
  rcases wants_or hr with ⟨_, rfl, rfl, led, rfl⟩ | ⟨_, rfl, he⟩
  · have g := Heap.get?_push_size s.heap (o := { cls := .type "set", data := .set #[] 0 (.fresh 0 0 led) }) rfl
    have ty : Shared.TypeIs { s with heap := s.heap.push _ } (.ref s.heap.objs.size) "set" := ⟨_, g, rfl⟩
    obtain ⟨c6, c7⟩ : _ ∧ _ := ⟨C.init.lookup, C.init.bind (.ref s.heap.objs.size)⟩
    repeat any_goals first | assumption | wp_step
    have run := QT (s := { s with heap := s.heap.push _ }) (prog := prog) (w := w) (A := A.in1.in1) (E := E) (Q := fun f s2 => f = .done (.ret .none) ∧ Q (.ref s.heap.objs.size) s2) hh g ⟨ol, up gl, dl⟩ hz hi hn (lo gl) fun h' tk S' k1 k2 => ⟨rfl, h h' tk _ S' (Nat.le_refl _) (fun b u e => k1 b u (lo e) (up e)) k2⟩
    refine codeAny_mono (codeAny_call_builtin (R := wants (fun v s2 => v = .none ∧ Q (.ref s.heap.objs.size) s2) E) C.init.plain F.entry_set_init (check_set_init_1 ty (jO run fun f s2 ⟨e, q⟩ => e ▸ ⟨rfl, q⟩))) fun r s2 hr => ?_
    rcases wants_or hr with ⟨_, rfl, rfl, q⟩ | ⟨_, rfl, he⟩
    · repeat any_goals first | assumption | wp_step
    · exact he
  · exact he
end
end L2
namespace L2
open PyProof.Rows PySem PySem.Spec
noncomputable def Gz (P:Program) (w:World) (a:Addr) (n:Nat):HO:=.ext fun h=>∃S,Heap.SetOf (strKind P w) h a S n
theorem YG {P:Program} {w:World} {H:Hp} {h:Heap} {a:Addr} {S:Str→Bool} {n:Nat} (x:Heap.SetOf (strKind P w) h a S n):xk P w H h a (Gz P w a n):=by
 have x':=x
 obtain⟨o,es,ep,t,ho,r⟩:=x'
 refine⟨⟨S,x⟩,⟨o,ho⟩,fun h1 h2 ⟨S',o',es',ep',t',ho',r'⟩ k=>⟨S',o',es',ep',t',k _ ho',r'⟩⟩
theorem YY {P:Program} {w:World} {H:Hp} {h:Heap} {a:Addr} {n:Nat} (x:bC P w H h) (q:H a=some (Gz P w a n)):∃S,Heap.SetOf (strKind P w) h a S n:=(x a _ q).1
section
variable {X:Cx} {K:PySem.W.Frag}
theorem Vz (hK:X.K=K) (hc:X.calm=true):vQ X (.type "set") (fun xs H Q=>∃p zs,xs=[.ref p]∧qM K H p (zs.map V.str)∧zs.length < 1000∧∀a,H a=none→Q (.ref a) (upd H a (Gz X.prog X.w a (iM [] zs)))):=by
 subst hK
 (intro pins s σ H xs us Q I r h)
 obtain⟨p,zs,rfl,hl,hn,k⟩:=h
 (obtain⟨u,rfl,ru⟩:=vals1 r)
 cases ru
 obtain⟨its,rv,⟨o,n,ho,hcl,_,hd⟩,_⟩:=I.list hl
 have hz:its.length=zs.length:=by rw[←rv.length,List.length_map]
 refine Qm (zs:=zs) (I.ok.hd hc) ⟨o,ho,hcl,n,hd⟩ (by simpa using hz) (fun j z e=>?_) hn fun h' tk a S' q1 q2 q3=>?_
 ·obtain⟨u,e1,⟨t,rfl⟩⟩:=rv.get (i:=j) (x:=.str z) (by rw[List.getElem?_map,e];rfl)
  exact⟨t,by simpa using e1⟩
 ·exact⟨.ref a,_,I.laid (a:=a) (o:=Gz X.prog X.w a (iM [] zs)) (h':=h') (t':=tk) q2 q1 (YG q3),rfl,k a (I.jj.fresh q1)⟩
theorem Qf:vQ X (.builtin "len") (fun xs H Q=>∃a n,xs=[V.ref a]∧H a=some (Gz X.prog X.w a n)∧Q (.int (n:Nat)) H):=by
 (intro pins s σ H xs us Q I r h)
 obtain⟨a,n,rfl,ha,q⟩:=h
 (obtain⟨u,rfl,ru⟩:=vals1 r)
 cases ru
 obtain⟨S,o,es,ep,t,ho,hex,hd,_,_,hb,hf,hn⟩:=YY I.jj ha
 refine call_len_set ho hex hd hf (by have:es.size < 4096:=hb;omega) ?_
 rw[hn]
 exact⟨.int n,H,I.tok _,⟨_,rfl⟩,q⟩
end
end L2
namespace L2
theorem Jt:∀(seen zs:List PySem.Str),iM seen zs≤zs.length
 | _,[]=>Nat.le_refl _
 | seen,z :: r=>by
  have:=Jt (z :: seen) r
  simp only[iM,List.length_cons]
  split<;>omega
theorem Zl:∀(seen zs:List PySem.Str),iM seen zs=zs.length↔zs.Nodup∧∀z∈zs,z∉seen
 | _,[]=>by simp [iM]
 | seen,z :: r=>by
  have h1:=Jt (z :: seen) r
  have h2:=Zl (z :: seen) r
  simp only[iM,List.length_cons,List.nodup_cons,List.mem_cons]
  by_cases q:z∈seen
  ·rw[if_pos q]
   constructor
   ·intro e;omega
   ·rintro ⟨_,h⟩;exact absurd q (h z (.inl rfl))
  ·rw[if_neg q]
   constructor
   ·intro e
    obtain⟨a,b⟩:=h2.mp (by omega)
    refine⟨⟨fun hz=>(b z hz) (by simp),a⟩,?_⟩
    rintro y (rfl | hy)
    ·exact q
    ·exact fun hs=>b y hy (List.mem_cons_of_mem _ hs)
   ·rintro ⟨⟨a,b⟩,c⟩
    have:=h2.mpr ⟨b,fun y hy hs=>?_⟩
    ·omega
    ·rcases List.mem_cons.mp hs with rfl | hs
     ·exact a hy
     ·exact c y (.inr hy) hs
theorem WB (zs:List PySem.Str):decide (((iM [] zs:Nat):Int)=(zs.length:Nat))=decide zs.Nodup:=by
 have:=Zl [] zs
 rw[decide_eq_decide]
 constructor
 ·intro e;exact(this.mp (by omega)).1
 ·intro e;have:=this.mpr ⟨e,fun _ _ h=>by cases h⟩;omega
end L2
namespace L2
open PySem PySem.Spec PyProof.Rows
noncomputable def Pg {α:Type} (xs:List α) (ix:List Nat):List α:=ix.filterMap (xs[·]?)
section
variable {X:Cx} {e ec:Expr} {te:TE} {lo hi:Option Expr} {tl th ts:TO} {pos p2:Pos}
noncomputable def Fu (K:PySem.W.Frag):V→Option Int→Option Int→Option Int→Hp→VK→Prop:=fun x lo hi st H Q=>∃a xs,x=.ref a∧qM K H a xs∧st≠some 0∧∀zs:List V,(∀z∈zs,z∈xs)→zs.length≤xs.length→Nw H (.lst zs) Q
noncomputable def FH (r:V→Option Int→Option Int→Option Int→Hp→VK→Prop) (te:TE) (tl th ts:TO):TE:=fun σ H Q=>te σ H fun x H1=>tl σ H1 fun l H2=>th σ H2 fun u H3=>ts σ H3 fun c H4=>r x l u c H4 Q
noncomputable def Bn (K:PySem.W.Frag):V→List V→Hp→VK→Prop:=fun x vs H Q=>∃z p ys,x=.str z∧vs=[.ref p]∧g9 K H p (ys.map V.str)∧(ys.map (·.length)).sum + ys.length * z.length≤16777216∧Q (.str (Txt.join z ys)) H
end
end L2
namespace L2
open PyProof.Rows PySem PySem.Spec
noncomputable def Pk (bt:Nat→Nat→Bool):Nat→Nat→Option Nat→Option Nat
 | 0,_,b=>b
 | k + 1,i,none=>Pk bt k (i + 1) (some i)
 | k + 1,i,some j=>Pk bt k (i + 1) (some (if bt i j=true then i else j))
noncomputable def HD (P:Nat→Value→Prop) (its:Array Value):Option Nat→Prop
 | none=>its = #[]
 | some j=>∃v,its = #[v,v]∧P j v
noncomputable def PM (P:Nat→Value→Prop) (d v:Value):Option Nat→Prop
 | none=>v=d
 | some j=>P j v
noncomputable def Px (its:Array Value) (c:Nat):Obj:={ cls:=.type "list",dict:=none,data:=.seq its c,slots:=#[] }
section
variable {prog:Program} {w:World} {A:Around} {R:Result→Shared→Prop} {I S:Addr} {fp wr:List Addr} {n:Nat} {P:Nat→Value→Prop} {St:Nat→Heap→Prop} {d:Value}
end
section
variable {w:World} {A:Around} {E:Value→Shared→Prop} {s:Shared} {prog:Program}
end
noncomputable def G3 (K:PySem.W.Frag) (d:V):V→Hp→VK→Prop:=fun x H Q=>∃l ns,x=.ref l∧qM K H l (ns.map V.int)∧(ns=[]→Q d H)∧∀M:Int,M∈ns→(∀a∈ns,a≤M)→Q (.int M) H
noncomputable def Pe (K:PySem.W.Frag) (te tk:TE):TE:=fun σ H Q=>te σ H fun x H1=>tk σ H1 fun d H2=>G3 K d x H2 Q
section
variable {X:Cx} {e ek:Expr} {te tk:TE} {p pos kp:Pos}
end
end L2
namespace L2
open PyProof.Rows PySem PySem.Spec
noncomputable def Hb (D0:Ends) (M:St→Hp→Prop):TS:=fun D σ H=>D=D0∧M σ H
theorem Z0 {X:Cx} {b:List Stmt} {tb:TS} {D0:Ends} {M:St→Hp→Prop} (h:sW X b tb) (hM:∀σ H,M σ H→tb D0 σ H):sW X b (Hb D0 M):=fun pins s σ H D I ⟨e,m⟩=>by
 subst e
 exact h pins s σ H D I (hM σ H m)
end L2
namespace L2
open PyProof.Rows PySem PySem.Spec
section
variable {pins:List (Addr × Obj)} {σ:St} {H:Hp} {s:Shared} {X:Cx}
noncomputable def fz (H:Hp) (d:Addr):Hp:=fun b=>if b=d then none else H b
theorem dI {H:Hp} {d b:Addr} (h:b≠d):fz H d b=H b:=if_neg h
theorem df {H:Hp} {d:Addr}:fz H d d=none:=if_pos rfl
theorem aj {H H0:Hp} {d:Addr} (h:qp H0 H) (n:H0 d=none):qp H0 (fz H d):=fun b o e=>by
 rw[dI (qx e n)]
 exact h b o e
theorem Inv.forget {d:Addr} {kvs:List (Key × V)} (I:Inv X pins σ H s) (e:H d=some (.dK kvs)):Inv X pins σ (fz H d) s:=by
 have nn:∀b,H b=none→fz H d b=none:=fun b n=>by
  unfold fz
  split
  ·rfl
  ·exact n
 have ss:∀b o,H b=some o→(∀kvs,o≠.dK kvs)→fz H d b=some o:=fun b o q h=>by
  rw[dI fun z=>by rw[z,e] at q;exact h kvs (Option.some.inj q).symm]
  exact q
 refine⟨I.ok,I.os,I.bare,⟨I.base.keep,I.base.slot,fun b o q n hx=>nn b (I.base.free b o q n hx),I.base.there,fun b xs q=>ss b _ (I.base.su b xs q) (fun _ z=>by cases z),fun b o u q=>ss b _ (I.base.uN b o u q) (fun _ z=>by cases z),fun b ps q=>?_⟩,I.loc,I.cell,nn _ I.free,fun x c q=>nn c (I.yX x c q),fun p hp=>?_,fun b u q=>?_,I.len⟩
 ·obtain⟨more,q⟩:=I.base.sm b ps q
  exact⟨more,ss b _ q (fun _ z=>by cases z)⟩
 ·obtain⟨a1,a2,a3⟩:=I.pin p hp
  exact⟨a1,nn _ a2,a3⟩
 ·have hb:b≠d:=fun z=>by rw[z,df] at q;cases q
  rw[dI hb] at q
  exact(I.jj b u q).sE (fun _ _ _ q=>q) (fun c q=>ss c _ q (fun _ z=>by cases z)) (fun c xs q=>ss c _ q (fun _ z=>by cases z))
theorem ZW {P:Program} {w:World} {k:Key} {u:Value} (h:(xp P w).is k u=true):RelV (kV k) u:=by
 rcases xq (show rE k u=true from h) with ⟨i,t,rfl,rfl⟩ | ⟨x,t,rfl,rfl⟩
 ·exact⟨t,rfl⟩
 ·exact⟨t,rfl⟩
theorem Inv.V6 {a:Addr} {o:HO} (I:Inv X pins σ H s) (e:H a=some o):a∉X.fs:=fun hb=>by
 obtain⟨_,o',ho,_⟩:=I.ok.d7.mem hb
 rw[I.base.free a o' ho (I.ok.KN a hb) fun z=>I.ok.iC a z hb] at e
 cases e
noncomputable def Hd (td:TE) (g:TG) (tb:TS):TS:=fun D σ H=>td σ H fun x H1=>∃a kvs,x=.ref a∧H1 a=some (.dK kvs)∧∃Pv:Nat→St→Hp→Prop,Pv 0 σ (fz H1 a)∧
 (∀i k v σ H,kvs[i]?=some (k,v)→Pv i σ H→g (kV k) σ H fun σ2 H2=>tb { D with nx:=Pv (i + 1),ct:=Pv (i + 1),bk:=D.nx } σ2 H2)∧∀σ H,Pv kvs.length σ H→D.nx σ H
theorem Vf {tg iter:Expr} {body:List Stmt} {td:TE} {g:TG} {tb:TS} {pos:Pos} (hp:PassesOwn (model X.prog X.w) X.A X.env X.xe) (hc:X.calm=true) (hi:PE X iter td) (hg:PG X tg g) (hb:sW X body tb)
  (hs:∀x,foldedSetIterable iter X.env x=pure x:=by intro _;rfl):PS X (.For tg iter body [] pos) (Hd td g tb):=by
 intro pins s σ H D I h
 refine wpAny_For (jO (hi pins s σ H _ I h) fun v s1 ⟨x,H1,I1,r1,a,kvs,ex,ea,Pv,p0,hstep,hend⟩=>?_) hs
 subst ex
 obtain rfl:v=Value.ref a:=r1
 obtain⟨hz,hd,vs,rel,dd⟩:=Je I1.jj ea
 obtain⟨ep,da⟩:=dd.dictAt
 obtain⟨od,es,hod,hcd,hdd,hk,hpp,hn⟩:=id da
 have hl:vs.length=kvs.length:=rel.length.symm
 refine wpAny_pyIter_dict hd da ?_
 have I2:=I1.kept (t':=s1.toks) (h':=s1.heap.push { cls:=.type "dict_keyiterator",data:=.fields #[.ref a,.int 0 0,.int vs.length 0,.int ep 0] }) fun b o e=>Heap.get?_push_of_some _ e
 have hne:a≠X.env.locals:=fun z=>by rw[z,I1.free] at ea;cases ea
 have I3:Inv X (pins ++ [(a,od)]) σ (fz H1 a) _:=(I2.forget ea).cG fun p hp=>(List.mem_append.mp hp).elim (fun z=>(I2.forget ea).pin p (List.mem_append_right _ z)) fun z=>by
  obtain rfl:=List.mem_singleton.mp z
  exact⟨Heap.get?_push_of_some _ hod,df,hne,I1.V6 ea,fun v z=>by rw[hdd] at z;cases z⟩
 have I1':Inv X (pins ++ [(a,od)]) σ (fz H1 a) s1:=(I1.forget ea).cG fun p hp=>(List.mem_append.mp hp).elim (fun z=>(I1.forget ea).pin p (List.mem_append_right _ z)) fun z=>by
  obtain rfl:=List.mem_singleton.mp z
  exact⟨hod,df,hne,I1.V6 ea,fun v z=>by rw[hdd] at z;cases z⟩
 have f0:yT X (pins ++ [(a,od)]) (fz H1 a) s1.heap.objs.size:=I1'.ag (Nat.le_refl _) (I1'.jj.fresh (Nat.le_refl _))
 have hat:∀{σ':St} {H':Hp} {s':Shared},Inv X (pins ++ [(a,od)]) σ' H' s'→s'.heap.DictAt (xp X.prog X.w) a vs ep:=fun J=>⟨od,es,(J.pin (a,od) (List.mem_append_right _ (List.mem_append_right _ (List.mem_singleton.mpr rfl)))).1,hcd,hdd,hk,hpp,hn⟩
 have hit0:(s1.heap.push { cls:=.type "dict_keyiterator",data:=.fields #[.ref a,.int 0 0,.int vs.length 0,.int ep 0] }).IsKeyIter s1.heap.objs.size a 0 vs.length ep:=⟨_,Heap.get?_push_size _ rfl,rfl,rfl⟩
 generalize s1.heap.objs.size=it at f0 hit0
 have un:∀{pl:List (Addr × Obj)} {σ':St} {H':Hp} {s':Shared},Inv X (pins ++ pl) σ' H' s'→Inv X pins σ' H' s':=fun J=>J.kX
 refine codeAny_forLoop_any (fun n s'=>∃i σ' H',Inv X (pins ++ [(a,od)]) σ' H' s'∧s'.heap.IsKeyIter it a i vs.length ep∧H' it=none∧n=kvs.length - i∧i≤kvs.length∧Pv i σ' H') ?_ kvs.length ⟨0,σ,_,I3,hit0,f0.1,rfl,Nat.zero_le _,p0⟩
 rintro n s3 ⟨i,σ3,H3,J,st,fr,rfl,hi3,p3⟩
 have F:yT X (pins ++ [(a,od)]) H3 it:=⟨fr,f0.2⟩
 obtain⟨g0,g1,g2,g3,g4,g5⟩:=F
 by_cases hlt:i < kvs.length
 ·have hx:vs[i]?=some vs[i]:=List.getElem?_eq_getElem (by omega)
  have hkx:kvs[i]?=some kvs[i]:=List.getElem?_eq_getElem hlt
  have hkey:kvs[i].1=vs[i].1:=by
   have e:=congrArg (fun l=>l[i]?) rel.keys
   simp only[List.getElem?_map,hx,hkx,Option.map_some] at e
   exact Option.some.inj e
  refine wpAny_passesOwn hp (wpAny_pyNext_dict_item (k:=vs[i].1) (v:=vs[i].2) st (hat J) hx fun key h' hkk hit' sb=>?_)
  have J1:Inv X (pins ++ [(a,od)]) σ3 H3 { s3 with heap:=h' }:=J.turned (t':=s3.toks) (fun b o hb e=>(sb.2 b hb).trans e) g0 g1 g3 g4 g5
  obtain⟨oi,e,c,d⟩:=id hit'
  refine wpAny_passesOwn hp (Za (s:={ s3 with heap:=h' }) e c d (by decide) ?_)
  have J2:=J1.pinned (fp:=[it]) (fun b hb=>by obtain rfl:=List.mem_singleton.mp hb;exact⟨g0,g1,g2,g3,g4,g5⟩) (fun b hb=>by obtain rfl:=List.mem_singleton.mp hb;exact⟨oi,e,fun v z=>by rw[d] at z;cases z⟩)
  have hR:RelV (kV kvs[i].1) key:=by rw[hkey];exact ZW hkk
  have hmem:(it,oi)∈dX [it] h':=va (List.mem_singleton.mpr rfl) e
  refine wpAny_passesOwn hp (jO (hg _ { s3 with heap:=h' } σ3 H3 (kV kvs[i].1) key _ J2 hR (hstep i _ kvs[i].2 σ3 H3 hkx p3)) fun _ s6 ⟨σ6,H6,I6,q6⟩=>?_)
  (refine wpAny_passesOwn hp (jO (hb _ s6 σ6 H6 _ I6 q6) fun f s7 q7=>?_))
  have again:∀{σ7:St} {H7:Hp},Inv X ((pins ++ [(a,od)]) ++ dX [it] h') σ7 H7 s7→Pv (i + 1) σ7 H7→∃m,m < kvs.length - i∧∃i σ' H',Inv X (pins ++ [(a,od)]) σ' H' s7∧s7.heap.IsKeyIter it a i vs.length ep∧H' it=none∧m=kvs.length - i∧i≤kvs.length∧Pv i σ' H':=fun {σ7 H7} J7 n7=>by
   have hpin:=J7.pin (it,oi) (List.mem_append_right _ (List.mem_append_right _ hmem))
   exact⟨kvs.length - (i + 1),by omega,i + 1,σ7,H7,J7.kX,⟨oi,hpin.1,c,d⟩,hpin.2.1,rfl,hlt,n7⟩
  cases f with
  | next=>exact(let ⟨_,_,J7,m7⟩:=q7;again J7 m7)
  | cont=>exact(let ⟨_,_,J7,m7⟩:=q7;again J7 m7)
  | brk=>obtain⟨σ7,H7,I7,q7⟩:=q7;exact⟨σ7,H7,un I7.kX,q7⟩
  | ret v=>obtain⟨x7,σ7,H7,I7,r7,q7⟩:=q7;exact⟨x7,σ7,H7,un I7.kX,r7,q7⟩
 ·have e:i=kvs.length:=by omega
  subst e
  refine wpAny_passesOwn hp (wpAny_pyNext_dict_end (I.ok.hd hc) st (hat J) (List.getElem?_eq_none (by omega)) fun h' eb=>?_)
  exact wpAny_execs_nil ⟨σ3,H3,un (J.turned (t':=s3.toks) (fun b o hb e=>eb b o hb e) g0 g1 g3 g4 g5),hend _ _ p3⟩
theorem eM:∀{vs:List Value},(∀v∈vs,∃z t,v=Value.str z t)→∃ss,StrsAre vs ss
 | [],_=>⟨[],.nil⟩
 | v :: vs,h=>by
  obtain⟨ss,i⟩:=eM (vs:=vs) fun v hv=>h v (List.mem_cons_of_mem _ hv)
  obtain⟨z,t,rfl⟩:=h v List.mem_cons_self
  exact⟨z :: ss,.cons z t i⟩
theorem ng:∀{vs:List Value} {ss:List Str},StrsAre vs ss→Vals (ss.map V.str) vs
 | _,_,.nil=>.nil
 | _,_,.cons _ t r=>.cons ⟨t,rfl⟩ (ng r)
theorem nU (hc:X.calm=true):vQ X (.builtin "sorted") (fun xs H Q=>∃a kvs,xs=[.ref a]∧H a=some (.dK kvs)∧kvs.length < 64∧(∀kv∈kvs,∃z,kv.1=.inr z)∧∀zs:List Str,zs.length=kvs.length→Nw H (.lst (zs.map V.str)) Q):=by
 (intro pins s σ H xs us Q I r h)
 obtain⟨a,kvs,rfl,ea,h64,hstr,q⟩:=h
 (obtain⟨u,rfl,ru⟩:=vals1 r)
 cases ru
 obtain⟨hz,hd,vs,rel,dd⟩:=Je I.jj ea
 obtain⟨ep,da⟩:=dd.dictAt
 have hl:vs.length=kvs.length:=rel.length.symm
 (refine Calls.call_function_entry kind_sorted plain_sorted entry_sorted (args_sorted1 _) ?_)
 unfold Builtin.«sorted»
 (refine wpAny_bind (m:=checkCount "sorted" 1 1 _) (wpAny_pure ?_))
 refine wpAny_bind (PySem.W.kdu_collect (A:=X.A.in1) (PySem.W.kdl_dict (kvs:=vs) (ep:=ep) hd) (I.ok.hd hc) da (by omega) fun h' tk acc hkp hacc=>?_)
 have hal:acc.toList.length=vs.length:=by rw[Array.length_toList];exact hacc.1
 have hS:∃ss,PyProof.Rows.StrsAre acc.toList ss:=by
  refine eM fun v hv=>?_
  obtain⟨i,hi,e⟩:=List.mem_iff_getElem.mp hv
  obtain⟨k,x,hkx,hkk⟩:=hacc.2 i v (by rw[←Array.getElem?_toList,List.getElem?_eq_getElem hi,e])
  have hk:∃z,k=.inr z:=by
   have hi2:i < kvs.length:=by omega
   obtain⟨z,hz⟩:=hstr kvs[i] (List.getElem_mem hi2)
   have e2:=congrArg (fun l=>l[i]?) rel.keys
   simp only[List.getElem?_map,hkx,List.getElem?_eq_getElem hi2,Option.map_some] at e2
   exact⟨z,(Option.some.inj e2).symm.trans hz⟩
  obtain⟨z,rfl⟩:=hk
  obtain⟨t,e⟩:=(show ∃t,v=Value.str z t from ZW hkk)
  exact⟨z,t,e⟩
 obtain⟨ss,hS⟩:=hS
 refine wpAny_bind (wpAny_newList ?_ (by rw[hal];omega))
 have hoL:(h'.push (seqObj "list" acc.toList.toArray 0)).get? h'.objs.size=some (seqObj "list" acc.toList.toArray 0):=Heap.get?_push_size _ rfl
 refine wpAny_bind (wpAny_holding (wpAny_call_entry slot_list_sort ⟨_,hoL,rfl⟩ entry_list_sort (list_sort_treeK strKind_oneLt hoL hS.keysOf (fun v₁ v₂ rest e=>keyKind_strs (by rw[←e];exact hS)) (by omega) fun st' a1 a2=>⟨_,rfl,?_⟩) (args_list_sort _)))
 (refine wpAny_pure ⟨_,rfl,?_⟩)
 obtain⟨ss',b1,b2,b3⟩:=sorted_out_str hS a1 a2
 have I1:Inv X pins σ H { s with heap:=h',toks:=tk }:=I.kept (t':=tk) hkp
 have hlt:∀b o,h'.get? b=some o→(sortedHeap (h'.push (seqObj "list" acc.toList.toArray 0)) h'.objs.size acc.toList ((arrOf st').map (·.2))).get? b=some o:=fun b o e=>by
  have hb:=Heap.lt_size e
  rw[sortedHeap_old (Nat.ne_of_lt hb) (by rw[size_push'];exact Nat.lt_succ_of_lt hb)]
  exact Heap.get?_push_of_some _ e
 obtain⟨ec,he⟩:=sortedHeap_at (out:=(arrOf st').map (·.2)) hoL
 have hls:ss'.length=kvs.length:=by
  have e1:=b2.length_eq
  have e2:=hS.length
  omega
 refine⟨.ref h'.objs.size,_,I1.laid (t':=tk) hlt (Nat.le_refl _) (o:=.lst (ss'.map V.str)) ⟨by rw[List.length_map];omega,_,ec,ng b1,?_⟩,rfl,(q ss' hls).el _ (I1.jj.fresh (Nat.le_refl _))⟩
 rw[Array.toArray_toList]
 exact he
end
section
variable {X:Cx} {k:Nat} {m:Str} {pos apos:Pos} {e o:Expr} {es:List Expr} {ta:TE} {t:TA} {CX:rY} {E:XK}
theorem yl {pl:Sem Bool} (hx:Passes CX X E) (hr:kn k X.A) (he:PE X o ta) (ha:PA X (e :: es) t) (hst:starEach (e :: es) X.env=(false,eval e X.env) :: starEach es X.env:=by rfl) (hpl:(backTo pos (starEach es X.env)).any (·.1)=false:=by rfl)
  (ht:eval (.Call (.Attribute o m apos) (e :: es) [] pos) X.env=(do let ov ←eval o X.env;standAt apos.atName;let (f,first) ←holding [ov] (getMethod ov m pl);callWith pos f first (backTo pos (starEach (e :: es) X.env)) (backToKw pos (keywordEach [] X.env))):=by rfl) :
  PE X (.Call (.Attribute o m apos) (e :: es) [] pos) (ij X CX k m E ta t):=by
 intro pins s σ H Q I h
 refine PySem.W.methodCall_KW (pl:=pl) (jO (he pins s σ H _ I h) fun u s1 ⟨x,H1,I1,rx,a,C,dx,fs,ex,ea,c,l,sp,M,q⟩=>?_) ht
 subst ex
 obtain⟨f,fd,ps,hm,F,hb⟩:=M.ex
 (obtain rfl:u=Value.ref a:=rx)
 refine gj I1 ea c hm l (PySem.W.callWith_K (first:=[.ref a]) (h₀:=X.base) I.ok.mod.ZY hm.kp (jO (ha pos pins s1 σ H1 _ I1 q) fun us s2 ⟨vs,H2,I2,r,q2⟩=>⟨I2.gJ,?_⟩) hst hpl)
 exact lT (us:=.ref a :: us) (vs:=.ref a :: vs) F hr hb .nil hx I2 (.cons rfl r) (by rw[List.append_nil];exact q2)
theorem Xs {pl:Sem Bool} (hxe:∀e s,X.xe e s→False) (hr:kn k X.A) (he:PE X o ta) (ha:PA X (e :: es) t) (hst:starEach (e :: es) X.env=(false,eval e X.env) :: starEach es X.env:=by rfl) (hpl:(backTo pos (starEach es X.env)).any (·.1)=false:=by rfl)
  (ht:eval (.Call (.Attribute o m apos) (e :: es) [] pos) X.env=(do let ov ←eval o X.env;standAt apos.atName;let (f,first) ←holding [ov] (getMethod ov m pl);callWith pos f first (backTo pos (starEach (e :: es) X.env)) (backToKw pos (keywordEach [] X.env))):=by rfl) :
  WJ X E (.Call (.Attribute o m apos) (e :: es) [] pos) (ij X (pT X.prog X.w) k m E ta t):=by
 intro pins s σ H Q I h
 refine PySem.W.methodCall_KW (pl:=pl) (wpAny_mono (he pins s σ H _ I h) (fun u s1 ⟨x,H1,I1,rx,a,C,dx,fs,ex,ea,c,l,sp,M,q⟩=>?_) fun e s z=>(hxe e s z).elim) ht
 subst ex
 obtain⟨f,fd,ps,hm,F,hb⟩:=M.ex
 (obtain rfl:u=Value.ref a:=rx)
 refine gj I1 ea c hm l (PySem.W.callWith_K (first:=[.ref a]) (h₀:=X.base) I.ok.mod.ZY hm.kp (wpAny_mono (ha pos pins s1 σ H1 _ I1 q) (fun us s2 ⟨vs,H2,I2,r,q2⟩=>⟨I2.gJ,?_⟩) fun e s z=>(hxe e s z).elim) hst hpl)
 exact Z3 (us:=.ref a :: us) (vs:=.ref a :: vs) F hr hb .nil I2 (.cons rfl r) (by rw[List.append_nil];exact q2)
noncomputable def YR (tx te:TE):TE:=fun σ H Q=>tx σ H fun x H0=>te σ H0 fun y H1=>Nw H1 (.tup [x,y]) Q
theorem Xt {c:Expr} {tx te:TE} {x1} (hxe:∀e s,X.xe e s→False) (hx:PE X c tx) (he:WJ X E e te) (hs:starEach [c,e] X.env=(false,eval c X.env) :: starEach [e] X.env:=by rfl) (hs2:starEach [e] X.env=(false,eval e X.env) :: starEach [] X.env:=by rfl):WJ X E (.Tuple [c,e] x1 pos) (YR tx te):=by
 intro pins s σ H Q I h
 refine wpAny_Tuple_spliced ?_
 rw[hs]
 show wpAny _ _ (spliced ((false,eval c X.env) :: backTo pos (starEach [e] X.env))) _ _ s
 refine Calls.spliced_cons (wpAny_mono (hx pins s σ H _ I h) (fun u s1 ⟨x,H1,I1,r1,q1⟩=>?_) fun e s z=>(hxe e s z).elim)
 rw[hs2]
 show wpAny _ _ (spliced ((false,eval e X.env) :: backTo pos (starEach [] X.env))) _ _ s1
 refine Calls.spliced_cons (wpAny_mono (he pins s1 σ H1 _ I1 q1) (fun u2 s2 ⟨y,H2,I2,r2,q2⟩=>?_) fun e s z=>z)
 refine wpAny_pure ?_
 refine⟨by show 2≤sizeLine;decide +kernel,.ref s2.heap.objs.size,upd H2 s2.heap.objs.size (.tup [x,y]),I2.laid (t':=s2.toks) (fun b u e=>Heap.get?_push_of_some _ e) (Nat.le_refl _) ?_,rfl,q2.el _ (I2.jj.fresh (Nat.le_refl _))⟩
 exact⟨by show 2≤sizeLine;decide +kernel,_,.cons r1 (.cons r2 .nil),⟨_,Heap.get?_push_size _ rfl,rfl,_,rfl⟩⟩
end
section
variable {X:Cx} {pins:List (Addr × Obj)} {σ:St} {H:Hp} {s:Shared} {a C:Addr} {d:Option Addr} {Eh:XK}
noncomputable def endsAt (D:Ends) (i:Nat):Ends:={ nx:=fun σ H=>D.nx (σ.set i none) H,rt:=D.rt,bk:=fun σ H=>D.bk (σ.set i none) H,ct:=fun σ H=>D.ct (σ.set i none) H }
theorem dR {P:Addr} {x n:Str} {i:Nat} {th:Addr→TS} {b0:Stmt} {suite:List Stmt} {pc ph:Pos} {rest:List ExceptHandler} {D:Ends} {T:Addr} (I:Inv X pins σ H s) (hxe:∀e s,X.xe e s→False)
  (hN:X.N.Nodup) (hi:X.N[i]?=some n) (hx:X.env.scope.names.lookup n=some .local) (hg:Gl X x) (hm:X.mg x=some (.ref P)) (hs:∀a,sW (X.held a) (b0 :: suite) (th a)) (hdb:(x == ("__debug__" : Str))=false)
  (F:VC a C d X.s₀.heap.objs.size H s.heap T) (hp:∀p∈X.pn ++ pins,p.1≠T) (hex:PySem.W.exmOne X.K (.ref C) (.ref P)=some true) (hth:th a (endsAt D i) (σ.set i (some (.ref a))) H) :
  wpAny (model X.prog X.w) X.A (handleBy (.ref a) X.env (.ExceptHandler (some (.Name x pc)) (some n) (b0 :: suite) ph :: rest)) (SP X pins D) X.xe s:=by
 have J:=I.held a
 refine wpAny_handleBy_cons (codeAny_handlers_test (yj J hg hm ?_ hdb)) (by intro q;cases q)
 obtain⟨vs,sl,hg2,_⟩:=id F.at'
 have LT:PySem.W.Looks (model X.prog X.w) s.heap (typeOf (.ref a)) (.ref C):=(PySem.W.Looks.ld hg2).andThen .now
 refine(PySem.W.exm_one I.gJ LT hex).here ?_
 show codeAny _ _ _ _ _
 refine codeAny_handlers_suite_as (I.lands F.is F.at' F.tr F.ne F.free F.new hp fun h3 I3 F3=>?_)
 refine gs I3 hN hi (.inl hx) (v:=.ref a) (u:=.ref a) rfl (fun s4 I4=>?_) (.inr hx)
 exact wpAny_mono (hs a pins s4 _ H _ (I4.held a) hth) (fun f s5 hsp=>SP.Gn I4.ok hN hi hx hsp) (fun ex s5 hz=>(hxe ex s5 hz).elim)
noncomputable def Ht (K:PySem.W.Frag) (Eh:XK) (P1 P2:Addr) (j i:Nat) (te:TE) (th1 th2:Addr→TS):TS:=fun D σ H=>(te σ H fun v H1=>jN j v σ H1 fun σ' H'=>D.nx σ' H')∧∀C a H',Eh (.ref C) (some a) H'→(PySem.W.exmOne K (.ref C) (.ref P1)=some true∧
 th1 a (endsAt D i) (σ.set i (some (.ref a))) H')∨(PySem.W.exmOne K (.ref C) (.ref P1)=some false∧PySem.W.exmOne K (.ref C) (.ref P2)=some true∧th2 a (endsAt D i) (σ.set i (some (.ref a))) H')
theorem Vd {P1 P2:Addr} {x1 x2 y n:Str} {i j:Nat} {e:Expr} {te:TE} {th1 th2:Addr→TS} {b1 b2:Stmt} {su1 su2:List Stmt} {p1 py pc1 pc2 ph1 ph2 pos:Pos} (hxe:∀e s,X.xe e s→False) (hst:X.stack=X.env :: X.outer) (hf:X.env.frame=some X.env.locals)
  (hN:X.N.Nodup) (hj:X.N[j]?=some y) (hy:X.env.scope.names.lookup y=some .local) (hi:X.N[i]?=some n) (hx:X.env.scope.names.lookup n=some .local) (hg1:Gl X x1) (hm1:X.mg x1=some (.ref P1)) (hg2:Gl X x2) (hm2:X.mg x2=some (.ref P2)) (he:WJ X Eh e te) (hs1:∀a,sW (X.held a) (b1 :: su1) (th1 a)) (hs2:∀a,sW (X.held a) (b2 :: su2) (th2 a))
  (hdb1:(x1 == ("__debug__" : Str))=false:=by decide) (hdb2:(x2 == ("__debug__" : Str))=false:=by decide) (hsw:swapsWith e (some (.Name y py)) p1.line X.env=pure false:=by rfl) :
  PS X (.Try [.Assign [.Name y py] e p1] [.ExceptHandler (some (.Name x1 pc1)) (some n) (b1 :: su1) ph1,.ExceptHandler (some (.Name x2 pc2)) (some n) (b2 :: su2) ph2] [] [] pos) (Ht X.K Eh P1 P2 j i te th1 th2):=by
 intro pins s σ H D I ⟨h1,h2⟩
 refine wpAny_Try_except ?_
 refine wpAny_execs_cons (wpAny_Assign_Name (wpAny_mono (he pins s σ H _ I h1) (fun u s1 ⟨v,H1,I1,r1,q1⟩=>gs I1 hN hj (.inl hy) r1 (fun s2 I2=>wpAny_execs_nil (wpAny_execs_nil ⟨_,H1,I2,q1⟩)) (.inr hy)) fun ex s1 hfl=>?_) hsw)
 obtain⟨a,C,d,T,H1,rfl,I1,F,hp,hE⟩:=hfl
 refine I1.Jf hst hf F hp fun h2' T2 I2 F2 hp2=>?_
 rcases h2 C a H1 hE with ⟨hex,hth⟩ | ⟨hno,hex,hth⟩
 ·exact dR I2 hxe hN hi hx hg1 hm1 hs1 hdb1 F2 hp2 hex hth
 ·refine wpAny_handleBy_cons (codeAny_handlers_test (yj (I2.held a) hg1 hm1 ?_ hdb1)) (by intro q;cases q)
  obtain⟨vs,sl,hg3,_⟩:=id F2.at'
  have LT:PySem.W.Looks (model X.prog X.w) h2' (typeOf (.ref a)) (.ref C):=(PySem.W.Looks.ld hg3).andThen .now
  refine(PySem.W.exm_one I2.gJ LT hno).here ?_
  exact dR I2 hxe hN hi hx hg2 hm2 hs2 hdb2 F2 hp2 hex hth
end
end L2
set_option maxRecDepth 100000
namespace My
open PySem PySem.Spec PyProof.Rows L2
seal PE PT PW PA PS sW PI PG Y3 PO PC PN WJ
local macro_rules | `(tactic| walk_at "lk")=>`(tactic| first | assumption | exact qy | exact GX (by assumption) (by walk_at "sm") | (refine qp.look (by assumption) ?_;walk_at "lk"))
local macro_rules | `(tactic| walk_at "sq")=>`(tactic| first | assumption | exact qM.of (by walk_at "lk") | exact YK (by assumption) (by walk_at "sm"))
local macro_rules | `(tactic| walk_at "sqT")=>`(tactic| first | assumption | exact g9.of (by walk_at "lk") | exact seqTS (by assumption) (by walk_at "sm"))
local macro_rules | `(tactic| walk_at "sm")=>`(tactic| first | assumption | exact qp.refl _ | (refine qp.trans ?_ (by assumption);walk_at "sm"))
local macro_rules | `(tactic| walk_at "sz")=>`(tactic| first | with_reducible assumption | with_reducible exact one_len | ((with_reducible apply KJ)<;>walk_at "sz") | ((with_reducible apply slice_len);walk_at "sz") | with_reducible exact JR _)
local macro_rules | `(tactic| walk_at "num")=>`(tactic| first | decide +kernel | omega | (simp only[List.length_cons,List.length_nil];omega))
local macro_rules | `(tactic| walk_at "lsz")=>`(tactic| first
 | ((with_reducible apply WY);(focus walk_at "sz");(focus walk_at "sz");walk_at "num")
 | ((with_reducible apply qv);first | decide +kernel | (simp only[List.length_cons,List.length_nil,List.length_map,List.length_append];omega))
 | ((with_reducible apply small_of);(focus walk_at "sz");walk_at "num"))
local macro_rules | `(tactic| walk_at "ar")=>`(tactic| first
 | walk_at "lsz"
 | omega
 | (refine And.intro ?_ ?_<;>omega)
 | (refine Or.inl (And.intro ?_ ?_)<;>omega)
 | (refine Or.inr (And.intro ?_ ?_)<;>omega)
 | decide +kernel
 | (show (0:Int) < _;decide +kernel)
 | (show (0:Int) < _;omega)
 | (refine And.intro ?_ (And.intro ?_ ?_)<;>decide +kernel))
local macro_rules | `(tactic| walk_at "lsl")=>`(tactic| first
 | exact mY (by simp only[List.length_cons,List.length_nil,List.length_map,List.length_append];omega)
 | exact mY (by omega))
local macro_rules | `(tactic| walk_at "own")=>`(tactic| fail)
local macro_rules | `(tactic| walk_at "fld")=>`(tactic| fail)
local macro_rules | `(tactic| walk_at "r1")=>`(tactic| (fail_if_success (refine Exists.intro (α:=Nat→Nat→L2.St→Hp→Prop) ?_ ?_));first
 | refine⟨_,rfl,?_⟩
 | refine⟨_,(by walk_at "fld" : Qv _ _ _ _ _),?_⟩
 | refine⟨_,_,rfl,rfl,?_⟩
 | refine⟨_,_,_,_,rfl,rfl,by walk_at "sq",bu (by walk_at "num") (by walk_at "num"),?_⟩
 | refine⟨_,_,_,_,rfl,rfl,by walk_at "sq",yI (by walk_at "num") (by walk_at "num"),?_⟩
 | refine⟨_,_,_,_,rfl,rfl,by walk_at "sqT",rfl,?_⟩
 | refine⟨_,_,rfl,.inr (by walk_at "sqT"),rfl,rfl,?_⟩
 | refine⟨_,_,rfl,.inl (by walk_at "sq"),rfl,rfl,?_⟩
 | refine⟨_,_,_,rfl,rfl,by walk_at "lsz",Jg (by omega) (by omega),?_⟩
 | refine⟨_,_,_,rfl,rfl,by walk_at "lk",by walk_at "lsl",?_⟩
 | refine⟨_,_,rfl,by walk_at "sq",?_⟩
 | refine⟨_,_,rfl,by walk_at "sqT",rfl,?_⟩
 | (refine And.intro ?_ ?_;· (apply Exists.intro;walk_at "sq"))
 | (refine And.intro (Or.inl (And.intro rfl ?_)) ?_;· (apply Exists.intro;walk_at "sq"))
 | refine⟨_,_,rfl,?_⟩
 | refine⟨_,_,_,rfl,?_⟩
 | refine And.intro rfl ?_
 | (refine And.intro ?_ ?_;· assumption)
 | refine⟨_,_,.type "bool",true,rfl,.inl ⟨_,rfl⟩,pN.bl _,d9 _ _,?_⟩
 | refine⟨_,_,.type "str",true,rfl,.inl ⟨_,rfl⟩,pN.str _,d9 _ _,?_⟩
 | refine⟨_,_,.type "int",true,rfl,.inl ⟨_,rfl⟩,pN.int _,d9 _ _,?_⟩
 | refine⟨_,_,.type "list",true,rfl,.inl ⟨_,rfl⟩,pN.lst (by walk_at "lk"),d9 _ _,?_⟩
 | (refine And.intro ?_ ?_;· walk_at "ar")
 | refine oq ?_
 | refine ug ?_
 | refine iteNS rfl ?_)
local macro_rules | `(tactic| walk_at "rd")=>`(tactic| repeat (first | walk_at "own" | walk_at "r1"))
local macro_rules | `(tactic| walk_at "rdi")=>`(tactic| repeat (first | walk_at "own" | walk_at "r1" | ((show Nw _ _ _);intro _ _ _ _ _)))
set_option genInjectivity false
set_option genSizeOf false
noncomputable def top (i:Nat):Stmt:=PySem.Challenge.pw_pactway_k31_scopes.main.body.getD i (.Pass ⟨0,0,0,0⟩)
noncomputable abbrev jW:Stmt:=inClass (top 3) 0
noncomputable abbrev jV:Stmt:=inClass (top 4) 0
noncomputable abbrev jw:Stmt:=inClass (top 5) 0
noncomputable abbrev jK:Stmt:=inClass (top 8) 0
noncomputable abbrev ji:Stmt:=inClass (top 8) 6
noncomputable abbrev xu:Stmt:=inClass (top 9) 0
noncomputable abbrev xx:Stmt:=inClass (top 9) 4
noncomputable abbrev xM:Stmt:=inClass (top 11) 0
noncomputable abbrev j4:Stmt:=inClass (top 12) 0
noncomputable abbrev xC:Stmt:=inClass (top 14) 0
noncomputable abbrev xl:Stmt:=inClass (top 15) 0
noncomputable abbrev xr:Stmt:=inClass (top 16) 0
noncomputable abbrev xt:Stmt:=top 23
noncomputable abbrev jB:Stmt:=top 24
noncomputable abbrev qL:Stmt:=top 25
noncomputable abbrev j9:Stmt:=top 29
noncomputable abbrev jd:Stmt:=top 30
noncomputable abbrev xo:Stmt:=top 31
noncomputable abbrev xU:Stmt:=top 32
noncomputable abbrev xn:Stmt:=top 33
noncomputable abbrev jH:Stmt:=top 34
noncomputable abbrev jc:Stmt:=top 35
noncomputable abbrev jt:Stmt:=top 36
noncomputable abbrev j7:Stmt:=inClass (top 38) 0
noncomputable abbrev j8:Stmt:=inClass (top 38) 1
noncomputable abbrev j5:Stmt:=inClass (top 38) 2
noncomputable abbrev jl:Stmt:=inClass (top 38) 3
noncomputable abbrev jG:Stmt:=inClass (top 38) 4
noncomputable abbrev j6:Stmt:=inClass (top 38) 5
noncomputable abbrev q9:Stmt:=inClass (top 38) 6
noncomputable abbrev qA:Stmt:=inClass (top 38) 7
noncomputable abbrev jY:Stmt:=inClass (top 38) 8
noncomputable abbrev wX:Stmt:=top 45
noncomputable abbrev jn:Stmt:=top 46
noncomputable abbrev jP:Stmt:=top 47
noncomputable abbrev jv:Stmt:=top 48
noncomputable abbrev jo:Stmt:=top 49
noncomputable abbrev xm:Stmt:=inClass (top 50) 0
noncomputable abbrev qE:Stmt:=inClass (top 50) 1
noncomputable abbrev jA:Stmt:=inClass (top 50) 2
noncomputable abbrev qS:Stmt:=inClass (top 50) 3
noncomputable abbrev qT:Stmt:=inClass (top 50) 4
noncomputable abbrev qB:Stmt:=inClass (top 50) 5
noncomputable abbrev jX:Stmt:=inClass (top 50) 6
noncomputable abbrev jJ:Stmt:=inClass (top 50) 7
noncomputable abbrev wK:Stmt:=top 52
noncomputable abbrev xS:Stmt:=top 53
noncomputable abbrev ky:Stmt:=top 54
noncomputable abbrev xR:Stmt:=top 55
noncomputable abbrev kS:Stmt:=top 56
noncomputable abbrev kO:Stmt:=top 57
noncomputable abbrev wW:Stmt:=top 58
noncomputable abbrev yC:Stmt:=top 59
noncomputable abbrev kT:Stmt:=top 60
noncomputable abbrev kR:Stmt:=top 61
noncomputable abbrev kN:Stmt:=top 62
noncomputable abbrev kL:Stmt:=top 63
noncomputable abbrev wV:Stmt:=top 64
noncomputable abbrev yD:Stmt:=top 65
structure Def (K:PySem.W.Frag) (mg:Str→Option Value) (x:Str) (st:Stmt) (ps:List Str) (f:Addr) (fd:FuncData):Prop where
 fn:Kn K x x st f fd
 bd:Binds K fd ps []
 mg:mg x=some (.ref f)
structure vF (K:PySem.W.Frag) (x q:Str) (st:Stmt) (ps:List Str) (f:Addr) (fd:FuncData):Prop where
 fn:Kn K x q st f fd
 bd:Binds K fd ps []
structure jf where
 xZ:Addr
 x8:FuncData
 kz:Addr
 vj:FuncData
 xI:Addr
 vo:FuncData
 qR:Addr
 xa:FuncData
 pP:Addr
 pB:FuncData
 vW:Addr
 gB:FuncData
 mL:Addr
 mR:FuncData
 wU:Addr
 bO:FuncData
 kH:Addr
 yV:FuncData
 gq:Addr
 bE:FuncData
 ko:Addr
 vK:FuncData
 yf:Addr
 gP:FuncData
 vY:Addr
 vV:FuncData
 vg:Addr
 vk:FuncData
 xK:Addr
 xX:FuncData
 yP:Addr
 yW:FuncData
 vy:Addr
 vx:FuncData
 gC:Addr
 gM:FuncData
 pk:Addr
 b9:FuncData
 gD:Addr
 gF:FuncData
 yq:Addr
 wI:FuncData
 kq:Addr
 x9:FuncData
 vI:Addr
 vL:FuncData
 kP:Addr
 vR:FuncData
 yB:Addr
 b8:FuncData
 yG:Addr
 bA:FuncData
 vO:Addr
 yA:FuncData
 yz:Addr
 bw:FuncData
 yH:Addr
 b7:FuncData
 kF:Addr
 wD:FuncData
 kB:Addr
 wM:FuncData
 w6:Addr
 bj:FuncData
 fq:Addr
 p8:FuncData
 vE:Addr
 vS:FuncData
 vh:Addr
 vw:FuncData
 vA:Addr
 vT:FuncData
 wz:Addr
 vN:FuncData
 yp:Addr
 gH:FuncData
 kG:Addr
 wF:FuncData
 yY:Addr
 bI:FuncData
 kh:Addr
 vC:FuncData
 kf:Addr
 vU:FuncData
 xQ:Addr
 kA:FuncData
 w4:Addr
 bq:FuncData
 wA:Addr
 bz:FuncData
 fj:Addr
 p9:FuncData
 pf:Addr
 pj:FuncData
 mi:Addr
 mf:FuncData
 pb:Addr
 pz:FuncData
 bJ:Addr
 bZ:FuncData
 mZ:Addr
 mm:FuncData
 d6:Addr
 dO:FuncData
 rq:Addr
 rz:FuncData
 ml:Addr
 mh:FuncData
 md:Addr
 mx:FuncData
 bX:Addr
 bQ:FuncData
 mr:Addr
 mw:FuncData
 dA:Addr
 dN:FuncData
 dE:Addr
 u9:FuncData
 uX:Addr
 yh:Addr
 jS:Addr
 ju:Addr
 VI:Addr
 xT:Addr
 yE:Addr
 vn:Addr
 p5:Addr
 vD:Addr
 dD:Addr
 jF:Addr
 xb:Addr
 qZ:Addr
 qC:Addr
 rO:Addr
 pe:Addr
noncomputable def gU:List Str:=["acts","any","be","by","calm","done","else","end","in","let","may","must","not","part","parties","rest","sore","to","whole"]
noncomputable def jk:List Str:=["calm","sore","end"]
noncomputable abbrev qP:Str:="abcdefghijklmnopqrstuvwxyz"
noncomputable abbrev kD:Str:="0123456789"
structure Txt (K:PySem.W.Frag) (mg:Str→Option Value) (t:jf):Prop where
 xW:vF K "__init__" "NoText.__init__" jW ["self","row"] t.xZ t.x8
 gW:vF K "__init__" "NoName.__init__" jV ["self","word"] t.kz t.vj
 g8:vF K "__init__" "CalmRoom.__init__" jw ["self","word"] t.xI t.vo
 vJ:vF K "__init__" "Clause.__init__" jK ["self","label","who","act"] t.qR t.xa
 sV:vF K "number" "Clause.number" ji ["self"] t.pP t.pB
 cA:vF K "__init__" "Duty.__init__" xu ["self","label","who","act","turns","room"] t.vW t.gB
 ic:vF K "number" "Duty.number" xx ["self"] t.mL t.mR
 rW:vF K "__init__" "Ban.__init__" xM ["self","label","who","act","room"] t.wU t.bO
 dy:vF K "__init__" "Power.__init__" j4 ["self","label","who","act","room"] t.kH t.yV
 rG:vF K "__init__" "Let.__init__" xC ["self","name","value"] t.gq t.bE
 yU:vF K "__init__" "Part.__init__" xl ["self","name","rooms","rows"] t.ko t.vK
 c9:vF K "__init__" "Pact.__init__" xr ["self","parties","acts","rooms","whole"] t.yf t.gP
 jR:Def K mg "is_name" xt ["word"] t.vY t.vV
 xH:Def K mg "number_of" jB ["word"] t.vg t.vk
 jC:Def K mg "written_with" qL ["word","signs","most"] t.xK t.xX
 gZ:Def K mg "names_of" j9 ["row","word","most"] t.yP t.yW
 xG:Def K mg "are_names" jd ["words","most"] t.vy t.vx
 bF:Def K mg "room_of" xo ["row"] t.gC t.gM
 fE:Def K mg "let_of" xU ["row"] t.pk t.b9
 bP:Def K mg "part_of" xn ["row"] t.gD t.gF
 yn:Def K mg "clause_of" jH ["row"] t.yq t.wI
 qY:Def K mg "fits_form" jc ["words","form"] t.kq t.x9
 wY:Def K mg "fits_place" jt ["word","place"] t.vI t.vL
 yO:vF K "__init__" "Scope.__init__" j7 ["self","pact"] t.kP t.vR
 bL:vF K "know" "Scope.know" j8 ["self","name","kind","meaning"] t.yB t.b8
 dg:vF K "bind" "Scope.bind" j5 ["self","name","value"] t.yG t.bA
 bR:vF K "copied" "Scope.copied" jl ["self"] t.vO t.yA
 p4:vF K "party" "Scope.party" jG ["self","word"] t.yz t.bw
 dh:vF K "deed" "Scope.deed" j6 ["self","word"] t.yH t.b7
 vM:vF K "room_for" "Scope.room_for" q9 ["self","word"] t.kF t.wD
 yN:vF K "falls_to" "Scope.falls_to" qA ["self","word"] t.kB t.wM
 yg:vF K "meant" "Scope.meant" jY ["self","word","kinds"] t.w6 t.bj
 so:Def K mg "read" wX ["text"] t.fq t.p8
 xi:Def K mg "read_names" jn ["rows","number","word","most","taken"] t.vE t.vS
 xB:Def K mg "told_once" jP ["names"] t.vh t.vw
 wG:Def K mg "read_rooms" jv ["rows","taken"] t.vA t.vT
 wH:Def K mg "read_whole" jo ["rows","start"] t.wz t.vN
 cE:vF K "__init__" "Body.__init__" xm ["self"] t.yp t.gH
 kl:vF K "many_open" "Body.many_open" qE ["self"] t.kG t.wF
 dv:vF K "takes" "Body.takes" jA ["self","row"] t.yY t.bI
 yo:vF K "takes_done" "Body.takes_done" qS ["self"] t.kh t.vC
 yi:vF K "takes_head" "Body.takes_head" qT ["self","head"] t.kf t.vU
 vP:vF K "takes_clause" "Body.takes_clause" qB ["self","clause"] t.xQ t.kA
 yy:vF K "put_in" "Body.put_in" jX ["self","row"] t.w4 t.bq
 gK:vF K "closed" "Body.closed" jJ ["self"] t.wA t.bz
 kY:Def K mg "_law_cell" wK ["_law_script","_law_k"] t.fj t.p9
 mz:Def K mg "_law_stream" xS ["_law_number","_law_many"] t.pf t.pj
 cO:Def K mg "_law_names" ky ["_law_cell_here","_law_many"] t.mi t.mf
 f9:Def K mg "_law_header" xR ["_law_script"] t.pb t.pz
 g6:Def K mg "_law_kinds" kS ["_law_header_here"] t.bJ t.bZ
 g7:Def K mg "_law_scope" kO ["_law_header_here"] t.mZ t.mm
 w_text:Def K mg "_law_text" wW ["_law_header_here"] t.d6 t.dO
 eL:Def K mg "_law_due" yC ["_law_kinds_here","_law_scope_here","_law_way","_law_word"] t.rq t.rz
 cN:Def K mg "_law_means" kT ["_law_scope_here","_law_way","_law_word"] t.ml t.mh
 cS:Def K mg "_law_asked" kR ["_law_scope_here","_law_way","_law_word"] t.md t.mx
 wB:Def K mg "_law_right" kN ["_law_scope_here","_law_kinds_here","_law_own","_law_way","_law_word"] t.bX t.bQ
 cT:Def K mg "_law_bound" kL ["_law_scope_here","_law_own","_law_name","_law_value"] t.mr t.mw
 sZ:Def K mg "_law_deed" wV ["_law_scopes","_law_owns","_law_header_here","_law_kinds_here","_law_cell_here"] t.dA t.dN
 Kj:Def K mg "law" yD ["_law_script"] t.dE t.u9
 ux:mg "list" = none
 kg:mg "len" = none
 gY:mg "range" = none
 Zm:mg "all" = none
 VS:mg "int" = none
 VN:mg "str" = none
 bS:mg "isinstance" = none
 nB:mg "dict" = none
 ie:mg "sorted" = none
 VO:mg "zip" = none
 dM:mg "ValueError" = none
 VT:mg "set" = none
 JV:mg "KEPT" = some (.ref t.rO)
 tW:∃tk,mg "LETTERS" = some (.str "abcdefghijklmnopqrstuvwxyz" tk)
 tV:∃tk,mg "FIGURES" = some (.str "0123456789" tk)
 fh:∃tk,mg "MOST_LETTERS" = some (.int 8 tk)
 fg:∃tk,mg "MOST_FIGURES" = some (.int 20 tk)
 nI:mg "MARKS" = some (.ref t.pe)
 pd:∃tk,mg "MOST_ROOMS" = some (.int 12 tk)
 fb:∃tk,mg "MOST_PARTIES" = some (.int 4 tk)
 uW:∃tk,mg "MOST_ACTS" = some (.int 6 tk)
 uG:∃tk,mg "MOST_ROWS" = some (.int 90 tk)
 uY:∃tk,mg "MOST_OPEN" = some (.int 6 tk)
 wq:∃tk,mg "FIRST_ROOM" = some (.int 2 tk)
 iE:mg "PactError" = some (.ref t.uX)
 gx:mg "NoText" = some (.ref t.yh)
 fc:mg "NoName" = some (.ref t.jS)
 di:mg "CalmRoom" = some (.ref t.ju)
 GK:mg "Row" = some (.ref t.VI)
 ly:mg "Clause" = some (.ref t.xT)
 JO:mg "Duty" = some (.ref t.yE)
 ow:mg "Leave" = some (.ref t.vn)
 V1:mg "Ban" = some (.ref t.p5)
 ZM:mg "Power" = some (.ref t.vD)
 V2:mg "Let" = some (.ref t.dD)
 lg:mg "Part" = some (.ref t.jF)
 JI:mg "Pact" = some (.ref t.xb)
 rp:mg "Scope" = some (.ref t.qZ)
 JN:mg "Body" = some (.ref t.qC)
 Xw:∃(o:Obj) (its:Array Value) (n:Nat),K.lookup t.rO=some o∧o.cls=.type "tuple"∧o.data=.seq its n∧its.size≤sizeLine∧Vals (gU.map V.str) its.toList
 ZN:∃(o:Obj) (its:Array Value) (n:Nat),K.lookup t.pe=some o∧o.cls=.type "tuple"∧o.data=.seq its n∧its.size≤sizeLine∧Vals (jk.map V.str) its.toList
 tQ:uS K t.xT
 mO:qo K t.xT "act"
 pD:qo K t.xT "label"
 fi:qo K t.xT "room"
 pC:qo K t.xT "turns"
 mI:qo K t.xT "who"
 tR:Mk K t.xT t.qR
 Zu:uS K t.yE
 uP:qo K t.yE "act"
 mE:qo K t.yE "label"
 cy:qo K t.yE "room"
 m5:qo K t.yE "turns"
 uF:qo K t.yE "who"
 og:Mk K t.yE t.vW
 iW:uS K t.vn
 cg:qo K t.vn "act"
 fe:qo K t.vn "label"
 m6:qo K t.vn "room"
 fZ:qo K t.vn "turns"
 cb:qo K t.vn "who"
 lZ:Mk K t.vn t.qR
 Jd:uS K t.p5
 lJ:qo K t.p5 "act"
 cv:qo K t.p5 "label"
 uB:qo K t.p5 "room"
 cw:qo K t.p5 "turns"
 lX:qo K t.p5 "who"
 aJ:Mk K t.p5 t.wU
 iY:uS K t.vD
 cc:qo K t.vD "act"
 fQ:qo K t.vD "label"
 dz:qo K t.vD "room"
 fJ:qo K t.vD "turns"
 cu:qo K t.vD "who"
 lQ:Mk K t.vD t.kH
 az:uS K t.dD
 uM:qo K t.dD "name"
 cf:qo K t.dD "value"
 J3:Mk K t.dD t.gq
 bN:uS K t.jF
 yF:qo K t.jF "name"
 bb:qo K t.jF "rooms"
 cm:qo K t.jF "rows"
 cq:Mk K t.jF t.ko
 gG:uS K t.xb
 pZ:qo K t.xb "acts"
 yZ:qo K t.xb "parties"
 bh:qo K t.xb "rooms"
 m9:qo K t.xb "whole"
 ZC:Mk K t.xb t.yf
 qI:uS K t.qZ
 wm:qo K t.qZ "kinds"
 ku:qo K t.qZ "meanings"
 bp:qo K t.qZ "pact"
 cj:Mk K t.qZ t.kP
 bg:Meth K t.qZ "know" t.yB
 mT:Meth K t.qZ "bind" t.yG
 pM:Meth K t.qZ "copied" t.vO
 fo:Meth K t.qZ "party" t.yz
 mN:Meth K t.qZ "deed" t.yH
 wg:Meth K t.qZ "room_for" t.kF
 gR:Meth K t.qZ "falls_to" t.kB
 wy:Meth K t.qZ "meant" t.w6
 je:uS K t.qC
 kJ:qo K t.qC "bodies"
 yx:qo K t.qC "heads"
 gy:qo K t.qC "labels"
 ZD:Mk K t.qC t.yp
 kc:Meth K t.qC "many_open" t.kG
 mS:Meth K t.qC "takes" t.yY
 gv:Meth K t.qC "takes_done" t.kh
 gw:Meth K t.qC "takes_head" t.kf
 yu:Meth K t.qC "takes_clause" t.xQ
 wx:Meth K t.qC "put_in" t.w4
 gk:Meth K t.qC "closed" t.wA
 nX:Kc K t.yh
 vH:Gg K t.yh t.xZ
 m8:qo K t.yh "row"
 nJ:Kc K t.jS
 pH:Gh K t.jS
 mB:Gg K t.jS t.kz
 wb:qo K t.jS "word"
 wC:PySem.W.exmOne K (.ref t.jS) (.ref t.jS)=some true
 dm:PySem.W.exmOne K (.ref t.jS) (.ref t.ju)=some false
 uL:Kc K t.ju
 cI:Gh K t.ju
 mq:Gg K t.ju t.xI
 wR:qo K t.ju "word"
 gz:PySem.W.exmOne K (.ref t.ju) (.ref t.jS)=some false
 yb:PySem.W.exmOne K (.ref t.ju) (.ref t.ju)=some true
 uk:Q9 K t.xT "__init__" t.qR
 iG:Q9 K t.vn "__init__" t.qR
 yc:PySem.W.kitOne K (.ref t.jS) (.type "ValueError")=some true
section
variable {P:Program} {w:World} {K:PySem.W.Frag} {mg:Str→Option Value} {base:Heap} {t:jf}
end
structure Good (N:Nat) (x:Str):Prop where
 lo:1≤x.length
 hi:x.length≤N
 as:asc x
structure CF (K:PySem.W.Frag) (C fI:Addr):Prop where
 cl:uS K C
 nl:qo K C "label"
 nw:qo K C "who"
 na:qo K C "act"
 nt:qo K C "turns"
 nr:qo K C "room"
 FO:Mk K C fI
noncomputable def f3 (l w a:Str):List (Str × V):=[("label",.str l),("who",.str w),("act",.str a)]
noncomputable def f4 (l w a r:Str):List (Str × V):=[("label",.str l),("who",.str w),("act",.str a),("room",.str r)]
noncomputable def f5 (l w a:Str) (n:Int) (r:Str):List (Str × V):=[("label",.str l),("who",.str w),("act",.str a),("turns",.int n),("room",.str r)]
theorem n1:¬(("label" : Str) = "who"):=by decide +kernel
theorem n2:¬(("label" : Str) = "act"):=by decide +kernel
theorem n3:¬(("who" : Str) = "act"):=by decide +kernel
theorem n4:¬(("label" : Str) = "room"):=by decide +kernel
theorem n5:¬(("who" : Str) = "room"):=by decide +kernel
theorem n6:¬(("act" : Str) = "room"):=by decide +kernel
theorem n7:¬(("label" : Str) = "turns"):=by decide +kernel
theorem n8:¬(("who" : Str) = "turns"):=by decide +kernel
theorem n9:¬(("act" : Str) = "turns"):=by decide +kernel
theorem Fw:¬(("turns" : Str) = "room"):=by decide +kernel
theorem put3 (l w a:Str):qJ "act" (.str a) (qJ "who" (.str w) (qJ "label" (.str l) []))=f3 l w a:=by
 simp only[qJ,f3,if_neg n1,if_neg n2,if_neg n3]
theorem GU (l w a r:Str):qJ "room" (.str r) (f3 l w a)=f4 l w a r:=by
 simp only[qJ,f3,f4,if_neg n4,if_neg n5,if_neg n6]
theorem Bl (l w a:Str) (n:Int) (r:Str):qJ "room" (.str r) (qJ "turns" (.int n) (f3 l w a))=f5 l w a n r:=by
 simp only[qJ,f3,f5,if_neg n7,if_neg n8,if_neg n9,if_neg n4,if_neg n5,if_neg n6,if_neg Fw]
noncomputable def WR (k:Int) (l w a:Str) (n:Int) (r:Str):List (Str × V):=if k=0 then f5 l w a n r else if k=2∨k=3 then f4 l w a r else f3 l w a
theorem jg {x:Str} {v:V} {r:List (Str × V)}:List.lookup x ((x,v) :: r)=some v:=by simp [List.lookup]
theorem jx {x y:Str} {v:V} {r:List (Str × V)} (h:¬(x=y)):List.lookup x ((y,v) :: r)=List.lookup x r:=by
 have:(x == y)=false:=beq_eq_false_iff_ne.mpr h
 simp [List.lookup,this]
theorem ay (k:Int) (l w a:Str) (n:Int) (r:Str):(WR k l w a n r).lookup ("label" : Str)=some (.str l):=by
 unfold WR;split
 ·exact jg
 ·split<;>exact jg
noncomputable def Jc (t:jf) (k:Int):Addr:=if k=0 then t.yE else if k=1 then t.vn else if k=2 then t.p5 else if k=3 then t.vD else t.xT
noncomputable def At (t:jf) (H:Hp) (p:Addr) (k:Int) (l w a:Str) (n:Int) (r:Str):Prop:=∃dx,H p=some (.ins (Jc t k) dx (WR k l w a n r))
noncomputable def XT (K:PySem.W.Frag):Sp:=fun vs H Q _=>∃(p C dx fI:Addr) (l w a:Str),vs=[.ref p,.str l,.str w,.str a]∧CF K C fI∧H p=some (.ins C dx [])∧Q .non (upd H p (.ins C dx (f3 l w a)))
noncomputable def Va (K:PySem.W.Frag):Sp:=fun vs H Q _=>∃(p C dx fI:Addr) (l w a r:Str),vs=[.ref p,.str l,.str w,.str a,.str r]∧CF K C fI∧H p=some (.ins C dx [])∧Q .non (upd H p (.ins C dx (f4 l w a r)))
noncomputable def G9 (K:PySem.W.Frag):Sp:=fun vs H Q _=>∃(p C dx fI:Addr) (l w a:Str) (n:Int) (r:Str),vs=[.ref p,.str l,.str w,.str a,.int n,.str r]∧CF K C fI∧H p=some (.ins C dx [])∧Q .non (upd H p (.ins C dx (f5 l w a n r)))
theorem Zc {K:PySem.W.Frag} {mg:Str→Option Value} {t:jf} (T:Txt K mg t):CF K t.yE t.vW:=⟨T.Zu,T.mE,T.uF,T.uP,T.m5,T.cy,T.og⟩
theorem iK {K:PySem.W.Frag} {mg:Str→Option Value} {t:jf} (T:Txt K mg t):CF K t.vn t.qR:=⟨T.iW,T.fe,T.cb,T.cg,T.fZ,T.m6,T.lZ⟩
theorem Jm {K:PySem.W.Frag} {mg:Str→Option Value} {t:jf} (T:Txt K mg t):CF K t.p5 t.wU:=⟨T.Jd,T.cv,T.lX,T.lJ,T.cw,T.uB,T.aJ⟩
theorem iV {K:PySem.W.Frag} {mg:Str→Option Value} {t:jf} (T:Txt K mg t):CF K t.vD t.kH:=⟨T.iY,T.fQ,T.cu,T.cc,T.fJ,T.dz,T.lQ⟩
theorem Qc {K:PySem.W.Frag} {mg:Str→Option Value} {t:jf} (T:Txt K mg t):CF K t.xT t.qR:=⟨T.tQ,T.pD,T.mI,T.mO,T.pC,T.fi,T.tR⟩
theorem Gm {K:PySem.W.Frag} {mg:Str→Option Value} {t:jf} (T:Txt K mg t) (k:Int):∃fI,CF K (Jc t k) fI:=by
 unfold Jc
 split
 ·exact⟨_,Zc T⟩
 split
 ·exact⟨_,iK T⟩
 split
 ·exact⟨_,Jm T⟩
 split
 ·exact⟨_,iV T⟩
 ·exact⟨_,Qc T⟩
section
variable {K:PySem.W.Frag} {mg:Str→Option Value} {t:jf} {H:Hp} {p:Addr} {k:Int} {l w a:Str} {n:Int} {r:Str} {Q:VK}
theorem At.fl (T:Txt K mg t) (h:At t H p k l w a n r):Qv K H (.ref p) "label" (.str l):=by
 obtain⟨dx,e⟩:=h
 obtain⟨fI,F⟩:=Gm T k
 exact⟨p,_,dx,_,rfl,e,F.cl,F.nl,ay _ _ _ _ _ _⟩
end
section
variable {P:Program} {w:World} {K:PySem.W.Frag} {mg:Str→Option Value} {base:Heap} {t:jf}
theorem lO:qm ["self","label","who","act"] ["self","label","who","act"] (z6 jK):=⟨rfl,rfl,rfl,by decide +kernel,rfl,by decide +kernel,by decide +kernel⟩
set_option maxHeartbeats 400000 in
theorem wt (T:Txt K mg t):qr P w K mg base jy 1 t.qR t.xa ["self","label","who","act"] (XT K):=by
 refine T.vJ.fn.ok lO (fun vs H Q E h=>(by obtain⟨_,_,_,_,_,_,_,rfl,_⟩:=h;rfl)) (fun cdv A outer s H vs Q E hr h=>?_)
 obtain⟨p,C,dx,fI,l,w,a,rfl,F,hp,k⟩:=h
 refine⟨_,(z7 (jE (pv 0) (pv 1) rfl)
   (z7 (jE (pv 0) (pv 2) rfl)
   (qz (jE (pv 0) (pv 3) rfl)))),?_⟩
 refine⟨_,rfl,_,rfl,p,C,dx,[],rfl,hp,F.cl,F.nl,(by show 0 < 1000;decide),?_⟩
 refine⟨_,rfl,_,rfl,p,C,dx,_,rfl,qy,F.cl,F.nw,(by show 1 < 1000;decide),?_⟩
 refine⟨_,rfl,_,rfl,p,C,dx,_,rfl,qy,F.cl,F.na,?_,?_⟩
 ·have:=xY ("who" : Str) (.str w) (qJ "label" (.str l) [])
  have e:(qJ ("label" : Str) (.str l) []).length=1:=rfl
  omega
 ·rw[gA,gA,put3]
  exact k
theorem oU:qm ["self","label","who","act","turns","room"] ["self","label","who","act","turns","room"] (z6 xu):=⟨rfl,rfl,rfl,by decide +kernel,rfl,by decide +kernel,by decide +kernel⟩
set_option maxHeartbeats 400000 in
theorem ou (T:Txt K mg t):qr P w K mg base jy 2 t.vW t.gB ["self","label","who","act","turns","room"] (G9 K):=by
 have G_Clause_init:qr P w K mg base jy 1 t.qR t.xa ["self","label","who","act"] (XT K):=(wt T).mono (by decide)
 refine T.cA.fn.ok oU (fun vs H Q E h=>(by obtain⟨_,_,_,_,_,_,_,_,_,rfl,_⟩:=h;rfl)) (fun cdv A outer s H vs Q E hr h=>?_)
 obtain⟨p,C,dx,fI,l,w,a,n,r,rfl,F,hp,k⟩:=h
 refine⟨_,(z7 (jU (lD rfl T.ly T.uk G_Clause_init hr T.vJ.bd .nil qK (z5 (pv 0) (z5 (pv 1) (z5 (pv 2) (z5 (pv 3) z8))))))
   (z7 (jE (pv 0) (pv 4) rfl)
   (qz (jE (pv 0) (pv 5) rfl)))),?_⟩
 refine⟨_,rfl,_,rfl,_,rfl,_,rfl,p,C,dx,fI,l,w,a,rfl,F,hp,?_⟩
 refine⟨_,rfl,_,rfl,p,C,dx,_,rfl,qy,F.cl,F.nt,(by show 3 < 1000;decide),?_⟩
 refine⟨_,rfl,_,rfl,p,C,dx,_,rfl,qy,F.cl,F.nr,?_,?_⟩
 ·have:=xY ("turns" : Str) (.int n) (f3 l w a)
  have e:(f3 l w a).length=3:=rfl
  omega
 ·rw[gA,gA,Bl]
  exact k
theorem eV:qm ["self","label","who","act","room"] ["self","label","who","act","room"] (z6 xM):=⟨rfl,rfl,rfl,by decide +kernel,rfl,by decide +kernel,by decide +kernel⟩
set_option maxHeartbeats 400000 in
theorem i7 (T:Txt K mg t):qr P w K mg base jy 2 t.wU t.bO ["self","label","who","act","room"] (Va K):=by
 have G_Clause_init:qr P w K mg base jy 1 t.qR t.xa ["self","label","who","act"] (XT K):=(wt T).mono (by decide)
 refine T.rW.fn.ok eV (fun vs H Q E h=>(by obtain⟨_,_,_,_,_,_,_,_,rfl,_⟩:=h;rfl)) (fun cdv A outer s H vs Q E hr h=>?_)
 obtain⟨p,C,dx,fI,l,w,a,r,rfl,F,hp,k⟩:=h
 refine⟨_,(z7 (jU (lD rfl T.ly T.uk G_Clause_init hr T.vJ.bd .nil qK (z5 (pv 0) (z5 (pv 1) (z5 (pv 2) (z5 (pv 3) z8))))))
   (qz (jE (pv 0) (pv 4) rfl))),?_⟩
 refine⟨_,rfl,_,rfl,_,rfl,_,rfl,p,C,dx,fI,l,w,a,rfl,F,hp,?_⟩
 refine⟨_,rfl,_,rfl,p,C,dx,_,rfl,qy,F.cl,F.nr,(by show 3 < 1000;decide),?_⟩
 rw[gA,GU]
 exact k
theorem sL:qm ["self","label","who","act","room"] ["self","label","who","act","room"] (z6 j4):=⟨rfl,rfl,rfl,by decide +kernel,rfl,by decide +kernel,by decide +kernel⟩
set_option maxHeartbeats 400000 in
theorem sP (T:Txt K mg t):qr P w K mg base jy 2 t.kH t.yV ["self","label","who","act","room"] (Va K):=by
 have G_Clause_init:qr P w K mg base jy 1 t.qR t.xa ["self","label","who","act"] (XT K):=(wt T).mono (by decide)
 refine T.dy.fn.ok sL (fun vs H Q E h=>(by obtain⟨_,_,_,_,_,_,_,_,rfl,_⟩:=h;rfl)) (fun cdv A outer s H vs Q E hr h=>?_)
 obtain⟨p,C,dx,fI,l,w,a,r,rfl,F,hp,k⟩:=h
 refine⟨_,(z7 (jU (lD rfl T.ow T.iG G_Clause_init hr T.vJ.bd .nil qK (z5 (pv 0) (z5 (pv 1) (z5 (pv 2) (z5 (pv 3) z8))))))
   (qz (jE (pv 0) (pv 4) rfl))),?_⟩
 refine⟨_,rfl,_,rfl,_,rfl,_,rfl,p,C,dx,fI,l,w,a,rfl,F,hp,?_⟩
 refine⟨_,rfl,_,rfl,p,C,dx,_,rfl,qy,F.cl,F.nr,(by show 3 < 1000;decide),?_⟩
 rw[gA,GU]
 exact k
theorem bG {H:Hp} {x dx:Addr} {o o':HO} (hx:H x=none) (hdx:H dx=none) (hne:dx≠x):qp H (upd (upd (upd H dx (.own x)) x o) x o'):=by
 rw[gA]
 exact(qp.QY hdx).new (by rw[qW (Ne.symm hne)];exact hx)
end
theorem Zo:kD.length=10∧kD.cps.toList=[48,49,50,51,52,53,54,55,56,57]:=by decide +kernel
theorem ZP:qP.length=26∧qP.cps.toList.length=26∧∀c∈qP.cps.toList,c < 128:=by decide +kernel
noncomputable def has (z:Str) (c:Nat):Bool:=!(Builtin.Str.occurrences z ⟨#[c]⟩ 0 z.length 1).isEmpty
noncomputable def pO (x z:Str) (m:Int):Bool:=decide (1≤x.length) && decide ((x.length:Int)≤m) && x.cps.toList.all (has z)
noncomputable def qX (x:Str):Bool:=pO x qP 8 && !ZX (.str x) (gU.map V.str)
theorem Qa:(gU.map V.str).all fk=true:=by decide +kernel
theorem iR (c:Nat):has kD c=decide (48≤c∧c≤57):=by
 unfold has
 rw[StrLaws.found_one,Zo.2]
 by_cases h:48≤c∧c≤57
 ·rw[decide_eq_true h]
  simp
  omega
 ·rw[decide_eq_false h]
  simp
  omega
noncomputable def pQ (x:Str):Int:=if pO x kD 20=true∧x.cps.toList.head?≠some 48 then ((PySem.NumText.digitsVal x.cps.toList:Nat):Int) else 0
noncomputable def aE:Sp:=fun vs H Q _=>∃(x z:Str) (m:Int),vs=[.str x,.str z,.int m]∧x.length≤400∧z.length≤100∧∀H',qp H H'→Q (.bl (pO x z m)) H'
noncomputable def iz:Sp:=fun vs H Q _=>∃(x:Str),vs=[.str x]∧x.length≤400∧∀H',qp H H'→Q (.bl (qX x)) H'
noncomputable def XE:Sp:=fun vs H Q _=>∃(x:Str),vs=[.str x]∧x.length≤400∧∀H',qp H H'→Q (.int (pQ x)) H'
theorem Jk {x z:Str} {bs:List Bool} (hl:bs.length=x.length) (h:∀(i:Nat) (c:Nat) (b:Bool),x.cps.toList[i]?=some c→bs[i]?=some b→b=has z c):bs.all id=x.cps.toList.all (has z):=by
 have e:bs=x.cps.toList.map (has z):=by
  apply List.ext_getElem?
  intro i
  rw[List.getElem?_map]
  cases q:x.cps.toList[i]? with
  | none=>
   have:x.cps.toList.length≤i:=List.getElem?_eq_none_iff.mp q
   exact List.getElem?_eq_none_iff.mpr (by rw[hl];simpa [Str.length] using this)
  | some c=>
   have hi:i < bs.length:=by
    rw[hl]
    have:=(List.getElem?_eq_some_iff.mp q).1
    simpa [Str.length] using this
   rw[List.getElem?_eq_getElem hi,Option.map_some,h i c _ q (List.getElem?_eq_getElem hi)]
 rw[e,List.all_map]
 rfl
theorem uR {x:Str} {m:Int} (h:pO x kD m=true):1≤x.length∧(x.length:Int)≤m∧PySem.NumText.AllDigits x.cps.toList:=by
 unfold pO at h
 rw[Bool.and_eq_true,Bool.and_eq_true] at h
 obtain⟨⟨h1,h2⟩,h3⟩:=h
 refine⟨of_decide_eq_true h1,of_decide_eq_true h2,fun c hc=>?_⟩
 have:=List.all_eq_true.mp h3 c hc
 rw[iR] at this
 exact of_decide_eq_true this
theorem iU {x:Str} (h:1≤x.length):∃c,x.cps.toList.head?=some c∧uj x.cps.toList 0=some c:=by
 have hl:0 < x.cps.toList.length:=by have h':1≤x.cps.size:=h;rw[Array.length_toList];omega
 cases e:x.cps.toList with
 | nil=>rw[e] at hl;simp at hl
 | cons c r=>exact⟨c,rfl,mj (xs:=c :: r) (j:=0) (v:=c) rfl⟩
theorem Yw (c d:Nat):decide (V.str ⟨#[c]⟩=V.str ⟨#[d]⟩)=decide (c=d):=by
 by_cases h:c=d
 ·subst h;simp
 ·have:¬(V.str ⟨#[c]⟩=V.str ⟨#[d]⟩):=fun q=>h (by injection q with q;injection q with q;simpa using q)
  rw[decide_eq_false this,decide_eq_false h]
theorem Km:("0" : Str)=⟨#[48]⟩:=by decide +kernel
section
variable {P:Program} {w:World} {K:PySem.W.Frag} {mg:Str→Option Value} {base:Heap} {t:jf}
theorem KA (T:Txt K mg t) (H:Hp):g9 K H t.rO (gU.map V.str):=.inr T.Xw
theorem cU:qm ["word","signs","most"] ["word","signs","most"] (z6 qL):=⟨rfl,rfl,rfl,by decide +kernel,rfl,by decide +kernel,by decide +kernel⟩
set_option maxHeartbeats 400000 in
theorem gS (T:Txt K mg t):qr P w K mg base jy 1 t.xK t.xX ["word","signs","most"] aE:=by
 refine T.jC.fn.ok cU (fun vs H Q E h=>(by obtain⟨_,_,_,rfl,_⟩:=h;rfl)) (fun cdv A outer s H vs Q E hr h=>?_)
 obtain⟨x,z,m,rfl,hx,hz,k⟩:=h
 refine⟨_,(z7 (qF (PW.pt (fD (qt ZO (qG dU rfl T.kg PySem.boot_len (z5 (pv 0) z8)) z9 (qV _)) (bf (qt tI (qG dU rfl T.kg PySem.boot_len (z5 (pv 0) z8)) (pv 2) (qV _)))))
    (qz (qf yr)) ql)
   (qz (qf (qG (hV rfl) rfl T.Zm PyProof.Rows.boot_all (z5 (ee (osc:=z6 qL) (N:=["word","signs","most"]) (names:=["signs"]) (qD:=[1]) rfl rfl rfl ⟨rfl,by decide +kernel,by decide +kernel,by decide +kernel,rfl,rfl,by decide +kernel,by decide +kernel⟩ (Yu (pv 0)) (fun _ _ _=>(gT QM (pv 0) (pv 1) rfl))) z8))))),?_⟩
 refine⟨_,rfl,x,rfl,qv (by omega),_,_,rfl,rfl,_,rfl,?_⟩
 refine jm (fun h1=>ug ?_) (fun h1=>?_)
 ·have e:pO x z m=false:=by
   have:¬(1≤x.length):=by have:=of_decide_eq_true h1;omega
   simp [pO,this]
  have:=k H (qp.refl H)
  rw[e] at this
  exact this
 refine⟨_,rfl,x,rfl,qv (by omega),_,rfl,_,_,rfl,rfl,_,rfl,?_⟩
 refine jm (fun h2=>?_) (fun h2=>?_)
 ·have e:pO x z m=false:=by
   have:¬((x.length:Int)≤m):=by have:=of_decide_eq_true h2;omega
   simp [pO,this]
  have:=k H (qp.refl H)
  rw[e] at this
  exact this
 have e1:1≤x.length:=by have:¬((x.length:Int) < 1):=fun q=>h1 (decide_eq_true q);omega
 have e2:(x.length:Int)≤m:=by have:¬(m < (x.length:Int)):=fun q=>h2 (decide_eq_true q);omega
 refine⟨_,rfl,x,rfl,rH (XY (z:=x)) (fun _ y v=>∀c,y=.str ⟨#[c]⟩→v=.bl (has z c)) (qv (by simp [Str.length] at hx ⊢;omega)) ?_ ?_⟩
 ·intro i y H' Q' hy s' kk
  rw[List.getElem?_map] at hy
  cases q:x.cps.toList[i]? with
  | none=>rw[q] at hy;cases hy
  | some c=>
   rw[q] at hy
   cases hy
   refine⟨_,rfl,_,rfl,_,_,rfl,rfl,kk _ _ (qp.refl _) fun c' e=>?_⟩
   have:c=c':=by simpa using e
   subst this
   rfl
 ·intro D H' ys s' hD hy hlen hp
  have hlen':ys.length=x.length:=by simpa [Str.length] using hlen
  obtain⟨bs,rfl⟩:=nP ys fun v hv=>by
   obtain⟨i,hi,e⟩:=List.getElem_of_mem hv
   have hix:i < x.cps.toList.length:=by rw[hlen'] at hi;simpa [Str.length] using hi
   exact⟨_,hp i _ v (by rw[List.getElem?_map,List.getElem?_eq_getElem hix];rfl) (by rw[List.getElem?_eq_getElem hi,e]) _ rfl⟩
  refine⟨D,bs,rfl,qM.of hy,?_⟩
  have e3:bs.all id=x.cps.toList.all (has z):=Jk (by simpa using hlen') fun i c b q1 q2=>by
   have:=hp i (.str ⟨#[c]⟩) (.bl b) (by rw[List.getElem?_map,q1];rfl) (by rw[List.getElem?_map,q2];rfl) c rfl
   simpa using this
  have:=k H' s'
  rw[show pO x z m=bs.all id by rw[e3];simp [pO,e1,e2]] at this
  exact this
theorem oN:qm ["word"] ["word"] (z6 xt):=⟨rfl,rfl,rfl,by decide +kernel,rfl,by decide +kernel,by decide +kernel⟩
set_option maxHeartbeats 400000 in
theorem pX (T:Txt K mg t):qr P w K mg base jy 2 t.vY t.vV ["word"] iz:=by
 have G_v_written_with:qr P w K mg base jy 1 t.xK t.xX ["word","signs","most"] aE:=(gS T).mono (by decide)
 refine T.jR.fn.ok oN (fun vs H Q E h=>(by obtain⟨_,rfl,_⟩:=h;rfl)) (fun cdv A outer s H vs Q E hr h=>?_)
 obtain⟨x,rfl,hx,k⟩:=h
 refine⟨_,(qz (qf (oK (qi G_v_written_with hr rfl T.jC.mg T.jC.fn.kp T.jC.bd .nil qK (z5 (pv 0) (z5 (xf rfl (T.tW).choose_spec (v:=.str qP) ⟨_,rfl⟩) (z5 (xf rfl (T.fh).choose_spec (v:=.int 8) ⟨_,rfl⟩) z8)))) (lC (gT (mK (K:=K) rfl) (pv 0) (xf rfl T.JV (v:=.ref t.rO) rfl) rfl))))),?_⟩
 refine⟨_,rfl,x,qP,8,rfl,hx,by decide +kernel,fun H' s'=>⟨_,rfl,?_⟩⟩
 refine jm (fun h1=>?_) (fun h1=>?_)
 ·refine⟨_,rfl,_,_,rfl,.inr (KA T H'),rfl,Qa,?_⟩
  have:=k H' s'
  rw[show qX x = !ZX (.str x) (gU.map V.str) by simp [qX,h1]] at this
  exact this
 ·have:=k H' s'
  rw[show qX x=false by simp [qX,h1]] at this
  exact this
theorem sj:qm ["word"] ["word"] (z6 jB):=⟨rfl,rfl,rfl,by decide +kernel,rfl,by decide +kernel,by decide +kernel⟩
set_option maxHeartbeats 400000 in
theorem fH (T:Txt K mg t):qr P w K mg base jy 2 t.vg t.vk ["word"] XE:=by
 have G_v_written_with:qr P w K mg base jy 1 t.xK t.xX ["word","signs","most"] aE:=(gS T).mono (by decide)
 refine T.xH.fn.ok sj (fun vs H Q E h=>(by obtain⟨_,rfl,_⟩:=h;rfl)) (fun cdv A outer s H vs Q E hr h=>?_)
 obtain⟨x,rfl,hx,k⟩:=h
 refine⟨_,(z7 (qF (PW.pt (fD (gu (vZ (qi G_v_written_with hr rfl T.jC.mg T.jC.fn.kp T.jC.bd .nil qK (z5 (pv 0) (z5 (xf rfl (T.tV).choose_spec (v:=.str kD) ⟨_,rfl⟩) (z5 (xf rfl (T.fg).choose_spec (v:=.int 20) ⟨_,rfl⟩) z8)))))) (bf (qt xj (qe oj (pv 0) z9 (fun _ _=>rfl)) qk (qV _)))))
    (qz (qf z9)) ql)
   (qz (qf (kx sG rfl T.VS PyProof.Rows.boot_int (z5 (pv 0) z8))))),?_⟩
 refine⟨_,rfl,x,kD,20,rfl,hx,by rw[Zo.1];decide,fun H' s'=>⟨_,rfl,?_⟩⟩
 cases hw:pO x kD 20 with
 | false=>
  refine ug (ug ?_)
  have:=k H' s'
  rw[show pQ x=0 by unfold pQ;rw[if_neg (by rw[hw];simp)]] at this
  exact this
 | true=>
  refine oq ?_
  obtain⟨h1,h2,h3⟩:=uR hw
  obtain⟨c,e1,e2⟩:=iU h1
  refine⟨_,rfl,x,_,c,rfl,rfl,qv (by omega),e2,rfl,_,rfl,?_⟩
  have hz:=Yw c 48
  rw[←Km] at hz
  refine jm (fun h4=>?_) (fun h4=>?_)
  ·have h4':decide (V.str ⟨#[c]⟩=V.str ("0" : Str))=true:=h4
   rw[hz] at h4'
   have hc:c=48:=of_decide_eq_true h4'
   have:=k H' s'
   rw[show pQ x=0 by unfold pQ;rw[if_neg (by rw[e1,hc];simp)]] at this
   exact this
  ·have hc:c≠48:=fun q=>h4 (by show decide (V.str ⟨#[c]⟩=V.str ("0" : Str))=true;rw[hz];exact decide_eq_true q)
   have hne:x.cps.toList≠[]:=fun q=>by rw[q] at e1;cases e1
   refine⟨_,rfl,x,_,rfl,PySem.intText_digits h3 hne (by omega),by omega,?_⟩
   have:=k H' s'
   rw[show pQ x=((PySem.NumText.digitsVal x.cps.toList:Nat):Int) by unfold pQ;rw[if_pos ⟨hw,by rw[e1];simpa using hc⟩]] at this
   exact this
end
local macro_rules | `(tactic| walk_at "at")=>`(tactic| first | assumption | exact At.same (by assumption) (by walk_at "sm"))
local macro_rules | `(tactic| walk_at "fld")=>`(tactic| first
 | with_reducible exact At.fl (by assumption) (by walk_at "at") | with_reducible exact At.fw (by assumption) (by walk_at "at") | with_reducible exact At.fa (by assumption) (by walk_at "at")
 | with_reducible exact At.ft (by assumption) (by walk_at "at") | with_reducible exact At.fr (by assumption) (by walk_at "at") (by first | assumption | omega))
section
variable {P:Program} {w:World} {K:PySem.W.Frag} {mg:Str→Option Value} {base:Heap} {t:jf}
end
noncomputable def ym (x p:Str):Bool:=if p = "NAME" then qX x else if p = "WHO" then qX x || decide (x = "any") else if p = "NUMBER" then decide (pQ x > 0) else decide (x=p)
noncomputable def km (ws fs:List Str):Bool:=decide (ws.length=fs.length) && (ws.zip fs).all fun p=>ym p.1 p.2
noncomputable def mD (ws:List Str) (m:Int):Bool:=decide (1≤ws.length) && decide ((ws.length:Int)≤m) && ws.all qX
structure Sh (ws:List Str):Prop where
 nN:ws.length≤200
 short:∀x∈ws,x.length≤400
theorem Sh.drop {ws:List Str} (h:Sh ws) (n:Nat):Sh (ws.drop n):=⟨by have:=h.nN;rw[List.length_drop];omega,fun x hx=>h.short x (List.mem_of_mem_drop hx)⟩
theorem Sh.take {ws:List Str} (h:Sh ws) (n:Nat):Sh (ws.take n):=⟨by have:=h.nN;rw[List.length_take];omega,fun x hx=>h.short x (List.mem_of_mem_take hx)⟩
theorem cL (a b:Str):decide (V.str a=V.str b)=decide (a=b):=by
 by_cases h:a=b
 ·subst h;simp
 ·have:¬(V.str a=V.str b):=fun q=>h (by injection q)
  rw[decide_eq_false this,decide_eq_false h]
theorem rX {a b:Str} (h:decide (V.str a=V.str b)=true):a=b:=by rw[cL] at h;exact of_decide_eq_true h
theorem rK {a b:Str} (h:¬decide (V.str a=V.str b)=true):a≠b:=fun q=>h (by rw[cL];exact decide_eq_true q)
theorem Qq {a b:Str} (h:(!decide (V.str a=V.str b))=true):a≠b:=fun q=>by subst q;simp at h
theorem Qz {a b:Str} (h:¬(!decide (V.str a=V.str b))=true):a=b:=by
 rw[cL] at h
 by_cases q:a=b
 ·exact q
 ·exact absurd (by rw[decide_eq_false q];rfl) h
theorem lH {b:Bool} (h:(!b)=true):b=false:=by cases b;rfl;cases h
theorem lG {b:Bool} (h:¬(!b)=true):b=true:=by cases b;exact absurd rfl h;rfl
theorem uZ {ws:List Str} {i:Nat} (h:i < ws.length):ws.getD i ""∈ws:=by
 rw[List.getD_eq_getElem?_getD,List.getElem?_eq_getElem h]
 exact List.getElem_mem h
noncomputable def Z7:Sp:=fun vs H Q _=>∃(x p:Str),vs=[.str x,.str p]∧x.length≤400∧∀H',qp H H'→Q (.bl (ym x p)) H'
noncomputable def oE (K:PySem.W.Frag):Sp:=fun vs H Q _=>∃(a b:Addr) (ws fs:List Str),vs=[.ref a,.ref b]∧qM K H a (ws.map V.str)∧qM K H b (fs.map V.str)∧Sh ws∧∀H',qp H H'→Q (.bl (km ws fs)) H'
noncomputable def XF (K:PySem.W.Frag):Sp:=fun vs H Q _=>∃(a:Addr) (m:Int) (ws:List Str),vs=[.ref a,.int m]∧qM K H a (ws.map V.str)∧Sh ws∧∀H',qp H H'→Q (.bl (mD ws m)) H'
theorem all_map {α:Type} {xs:List α} {bs:List Bool} {f:α→Bool} (hl:bs.length=xs.length) (h:∀(i:Nat) x b,xs[i]?=some x→bs[i]?=some b→b=f x):bs.all id=xs.all f:=by
 have e:bs=xs.map f:=by
  apply List.ext_getElem?
  intro i
  rw[List.getElem?_map]
  cases q:xs[i]? with
  | none=>exact List.getElem?_eq_none_iff.mpr (by rw[hl];exact List.getElem?_eq_none_iff.mp q)
  | some c=>
   have hi:i < bs.length:=by rw[hl];exact(List.getElem?_eq_some_iff.mp q).1
   rw[List.getElem?_eq_getElem hi,Option.map_some,h i c _ q (List.getElem?_eq_getElem hi)]
 rw[e,List.all_map]
 rfl
section
variable {P:Program} {w:World} {K:PySem.W.Frag} {mg:Str→Option Value} {base:Heap} {t:jf}
theorem u6:qm ["word","place"] ["word","place"] (z6 jt):=⟨rfl,rfl,rfl,by decide +kernel,rfl,by decide +kernel,by decide +kernel⟩
set_option maxHeartbeats 400000 in
theorem uE (T:Txt K mg t):qr P w K mg base jy 3 t.vI t.vL ["word","place"] Z7:=by
 have G_v_is_name:qr P w K mg base jy 2 t.vY t.vV ["word"] iz:=(pX T).mono (by decide)
 have G_v_number_of:qr P w K mg base jy 2 t.vg t.vk ["word"] XE:=(fH T).mono (by decide)
 refine T.wY.fn.ok u6 (fun vs H Q E h=>(by obtain⟨_,_,rfl,_⟩:=h;rfl)) (fun cdv A outer s H vs Q E hr h=>?_)
 obtain⟨x,p,rfl,hx,k⟩:=h
 refine⟨_,(z7 (qF (qt xj (pv 1) qk (qV _))
    (qz (qf (qi G_v_is_name hr rfl T.jR.mg T.jR.fn.kp T.jR.bd .nil qK (z5 (pv 0) z8)))) ql)
   (z7 (qF (qt xj (pv 1) qk (qV _))
    (qz (qf (GF (qi G_v_is_name hr rfl T.jR.mg T.jR.fn.kp T.jR.bd .nil qK (z5 (pv 0) z8)) (lC (gT xj (pv 0) qk (qV _)))))) ql)
   (z7 (qF (qt xj (pv 1) qk (qV _))
    (qz (qf (gT tI (qi G_v_number_of hr rfl T.xH.mg T.xH.fn.kp T.xH.bd .nil qK (z5 (pv 0) z8)) z9 (qV _)))) ql)
   (qz (qf (gT xj (pv 0) (pv 1) (qV _))))))),?_⟩
 walk_at "rd"
 refine jm (fun h1=>?_) (fun h1=>?_)
 ·have e:=rX h1
  subst e
  walk_at "rd"
  intro H' s'
  have:=k H' s'
  unfold ym at this
  rw[if_pos rfl] at this
  exact this
 have n1:=rK h1
 walk_at "rd"
 refine jm (fun h2=>?_) (fun h2=>?_)
 ·have e:=rX h2
  subst e
  walk_at "rd"
  intro H' s'
  have:=k H' s'
  unfold ym at this
  rw[if_neg n1,if_pos rfl] at this
  refine⟨_,rfl,?_⟩
  refine jm (fun h3=>?_) (fun h3=>?_)
  ·rw[h3] at this;exact this
  ·walk_at "rd"
   rw[cL]
   rw[Bool.eq_false_iff.mpr h3] at this
   exact this
 have n2:=rK h2
 walk_at "rd"
 refine jm (fun h3=>?_) (fun h3=>?_)
 ·have e:=rX h3
  subst e
  walk_at "rd"
  intro H' s'
  walk_at "rd"
  have:=k H' s'
  unfold ym at this
  rw[if_neg n1,if_neg n2,if_pos rfl] at this
  exact this
 have n3:=rK h3
 walk_at "rd"
 have:=k H (qp.refl H)
 unfold ym at this
 rw[if_neg n1,if_neg n2,if_neg n3] at this
 rw[cL]
 exact this
theorem sq:qm ["words","form"] ["words","form"] (z6 jc):=⟨rfl,rfl,rfl,by decide +kernel,rfl,by decide +kernel,by decide +kernel⟩
set_option maxHeartbeats 400000 in
theorem gm (T:Txt K mg t):qr P w K mg base jy 4 t.kq t.x9 ["words","form"] (oE K):=by
 have G_v_fits_place:qr P w K mg base jy 3 t.vI t.vL ["word","place"] Z7:=(uE T).mono (by decide)
 refine T.qY.fn.ok sq (fun vs H Q E h=>(by obtain⟨_,_,_,_,rfl,_⟩:=h;rfl)) (fun cdv A outer s H vs Q E hr h=>?_)
 obtain⟨a,b,ws,fs,rfl,hA,hB,hS,k⟩:=h
 refine⟨_,(z7 (qF (qt ZI (qG (qN (K:=K) rfl) rfl T.kg PySem.boot_len (z5 (pv 0) z8)) (qG (qN (K:=K) rfl) rfl T.kg PySem.boot_len (z5 (pv 1) z8)) (qV _))
    (qz (qf yr)) ql)
   (qz (qf (qG (hV rfl) rfl T.Zm PyProof.Rows.boot_all (z5 (nk (osc:=z6 jc) (N:=["words","form"]) (xs:=["word","place"]) (names:=[]) (qD:=[]) rfl rfl rfl ⟨rfl,by decide +kernel,by decide +kernel,by decide +kernel,by decide +kernel,rfl,by decide +kernel,by decide +kernel⟩ (Vb (K:=K) rfl rfl T.VO (z5 (pv 0) (z5 (pv 1) z8)) PyProof.Rows.boot_zip) (fun _ _ _=>(cW (K:=K) (n:=2) rfl rfl (vf (jr (i:=0) (show (["word","place"]:List Str).Nodup from by decide +kernel) rfl (.inl (iI rfl)) (.inr (iI rfl))) (vf (jr (i:=1) (show (["word","place"]:List Str).Nodup from by decide +kernel) rfl (.inl (iI rfl)) (.inr (iI rfl))) cY)) rfl rfl)) (fun _ _ _=>Z1) (fun _ _ _=>(qi G_v_fits_place hr rfl T.wY.mg T.wY.fn.kp T.wY.bd .nil qK (z5 (pv 0) (z5 (pv 1) z8))))) z8))))),?_⟩
 refine⟨_,rfl,a,_,rfl,.inl hA,_,rfl,b,_,rfl,.inl hB,rfl,_,rfl,?_⟩
 rw[List.length_map,List.length_map]
 refine jm (fun h1=>?_) (fun h1=>?_)
 ·have:=k H (qp.refl H)
  have e:¬ws.length=fs.length:=by
   intro q;rw[q] at h1;simp at h1
  unfold km at this
  rw[decide_eq_false e] at this
  exact this
 have hl:ws.length=fs.length:=by
  by_cases q:ws.length=fs.length
  ·exact q
  ·exact absurd (by simp;omega) h1
 refine⟨_,rfl,_,rfl,a,b,_,_,rfl,hA,hB,?_⟩
 refine Jl hA hB (fun x y v=>∀x' y',x=.str x'→y=.str y'→v=.bl (ym x' y')) (qv (by have:=hS.nN;rw[List.length_map];omega)) ?_ ?_
 ·intro i x y H' Q' e1 e2 s' kk
  rw[List.getElem?_map] at e1 e2
  cases q1:ws[i]? with
  | none=>rw[q1] at e1;cases e1
  | some x'=>
   cases q2:fs[i]? with
   | none=>rw[q2] at e2;cases e2
   | some y'=>
    rw[q1] at e1
    rw[q2] at e2
    cases e1
    cases e2
    refine⟨_,rfl,_,rfl,x',y',rfl,hS.short x' (List.mem_of_getElem? q1),fun H4 s4=>kk _ _ s4 fun a b ea eb=>?_⟩
    cases ea
    cases eb
    rfl
 ·intro D H' vs s' hD hv hvl hp
  rw[List.length_map,List.length_map,hl,Nat.min_self] at hvl
  obtain⟨bs,rfl⟩:=nP vs fun v hv'=>by
   obtain⟨i,hi,e⟩:=List.getElem_of_mem hv'
   have h1:i < ws.length:=by omega
   have h2:i < fs.length:=by omega
   exact⟨_,hp i _ _ v (by rw[List.getElem?_map,List.getElem?_eq_getElem h1];rfl) (by rw[List.getElem?_map,List.getElem?_eq_getElem h2];rfl) (by rw[List.getElem?_eq_getElem hi,e]) _ _ rfl rfl⟩
  refine⟨D,bs,rfl,qM.of hv,?_⟩
  have e:bs.all id=(ws.zip fs).all fun p=>ym p.1 p.2:=all_map (by rw[List.length_zip,hl,Nat.min_self];simpa using hvl) fun i p b q1 q2=>by
   rw[List.getElem?_zip_eq_some] at q1
   have:=hp i _ _ (.bl b) (by rw[List.getElem?_map,q1.1];rfl) (by rw[List.getElem?_map,q1.2];rfl) (by rw[List.getElem?_map,q2];rfl) _ _ rfl rfl
   simpa using this
  have:=k H' s'
  unfold km at this
  rw[decide_eq_true hl,←e] at this
  exact this
theorem l9:qm ["words","most"] ["words","most"] (z6 jd):=⟨rfl,rfl,rfl,by decide +kernel,rfl,by decide +kernel,by decide +kernel⟩
set_option maxHeartbeats 400000 in
theorem fG (T:Txt K mg t):qr P w K mg base jy 3 t.vy t.vx ["words","most"] (XF K):=by
 have G_v_is_name:qr P w K mg base jy 2 t.vY t.vV ["word"] iz:=(pX T).mono (by decide)
 refine T.xG.fn.ok l9 (fun vs H Q E h=>(by obtain⟨_,_,_,rfl,_⟩:=h;rfl)) (fun cdv A outer s H vs Q E hr h=>?_)
 obtain⟨a,m,ws,rfl,hA,hS,k⟩:=h
 refine⟨_,(qz (qf (oK (Xc V7 V7 z9 (qG (qN (K:=K) rfl) rfl T.kg PySem.boot_len (z5 (pv 0) z8)) (pv 1)) (lC (qG (hV rfl) rfl T.Zm PyProof.Rows.boot_all (z5 (ee (osc:=z6 jd) (N:=["words","most"]) (names:=[]) (qD:=[]) rfl rfl rfl ⟨rfl,by decide +kernel,by decide +kernel,by decide +kernel,rfl,rfl,by decide +kernel,by decide +kernel⟩ (vm (K:=K) rfl (pv 0)) (fun _ _ _=>(qi G_v_is_name hr rfl T.jR.mg T.jR.fn.kp T.jR.bd .nil qK (z5 (pv 0) z8)))) z8)))))),?_⟩
 walk_at "rd"
 refine⟨a,_,rfl,.inl hA,_,_,rfl,rfl,_,rfl,?_⟩
 rw[List.length_map]
 have no:∀H',qp H H'→mD ws m=false→Q (.bl false) H':=fun H' s' e=>by have:=k H' s';rw[e] at this;exact this
 refine jm (fun h1=>?_) (fun h1=>?_)
 ·have h1':1≤ws.length:=by have:=of_decide_eq_true h1;omega
  refine⟨_,rfl,_,_,rfl,rfl,_,rfl,?_⟩
  refine jm (fun h2=>?_) (fun h2=>?_)
  ·have h2':(ws.length:Int)≤m:=of_decide_eq_true h2
   refine⟨_,rfl,a,rfl,⟨_,hA⟩,rH (ny hA) (fun _ y v=>∀x,y=.str x→v=.bl (qX x)) (qv (by have:=hS.nN;rw[List.length_map];omega)) ?_ ?_⟩
   ·intro i y H' Q' e1 s' kk
    rw[List.getElem?_map] at e1
    cases q1:ws[i]? with
    | none=>rw[q1] at e1;cases e1
    | some x'=>
     rw[q1] at e1
     cases e1
     exact⟨_,rfl,x',rfl,hS.short x' (List.mem_of_getElem? q1),fun H4 s4=>kk _ _ s4 fun a ea=>by cases ea;rfl⟩
   ·intro D H' vs s' hD hv hvl hp
    rw[List.length_map] at hvl
    obtain⟨bs,rfl⟩:=nP vs fun v hv'=>by
     obtain⟨i,hi,e⟩:=List.getElem_of_mem hv'
     have h1:i < ws.length:=by omega
     exact⟨_,hp i _ v (by rw[List.getElem?_map,List.getElem?_eq_getElem h1];rfl) (by rw[List.getElem?_eq_getElem hi,e]) _ rfl⟩
    refine⟨D,bs,rfl,qM.of hv,?_⟩
    have e:bs.all id=ws.all qX:=all_map (by simpa using hvl) fun i p b q1 q2=>by
     have:=hp i _ (.bl b) (by rw[List.getElem?_map,q1];rfl) (by rw[List.getElem?_map,q2];rfl) _ rfl
     simpa using this
    have:=k H' s'
    unfold mD at this
    rw[decide_eq_true h1',decide_eq_true h2',←e] at this
    exact this
  ·refine no H (qp.refl H) ?_
   have:¬(ws.length:Int)≤m:=fun q=>h2 (decide_eq_true q)
   simp [mD,this]
 ·refine⟨false,rfl,oq ?_⟩
  refine no H (qp.refl H) ?_
  have:¬1≤ws.length:=fun q=>h1 (decide_eq_true (by omega))
  simp only[mD,decide_eq_false this,Bool.false_and]
end
noncomputable def yt (x:Str):List Str:=Txt.split x " "
theorem rJ (x:Str):1≤(yt x).length∧(yt x).length≤x.length + 2:=⟨PyProof.Rows.split_pos x " ",PyProof.Rows.split_le x " "⟩
theorem sg {x:Str} (h:x.length≤190):Sh (yt x):=⟨by have:=(rJ x).2;omega,fun y hy=>by have:=PyProof.Rows.part_short (x:=x) (y:=" ") hy;omega⟩
theorem ba {α:Type} (f:α→V) (xs:List α) (n:Nat):uv (xs.map f) (some (n:Int)) none=(xs.drop n).map f:=by
 unfold uv
 rw[HT.rQ,HT.eK,List.length_map,←List.map_drop,←List.map_take]
 by_cases h:n≤xs.length
 ·rw[Nat.min_eq_left h,List.take_of_length_le (by rw[List.length_drop];omega)]
 ·rw[Nat.min_eq_right (by omega),Nat.sub_self,List.drop_eq_nil_of_le (Nat.le_refl _),List.drop_eq_nil_of_le (by omega)]
  rfl
theorem iF {α:Type} (f:α→V) (xs:List α) (n:Nat):uv (xs.map f) none (some (n:Int))=(xs.take n).map f:=by
 unfold uv
 rw[HT.rQ,HT.eK,List.length_map,List.drop_zero,Nat.sub_zero,←List.map_take]
 by_cases h:n≤xs.length
 ·rw[Nat.min_eq_left h]
 ·rw[Nat.min_eq_right (by omega),List.take_length,List.take_of_length_le (by omega)]
noncomputable def wd (ws:List Str) (i:Nat):Str:=ws.getD i ""
noncomputable def JX:List Str:=["let","NAME","be","NAME"]
noncomputable def rF:List Str:=["part","NAME"]
noncomputable def Zi:List Str:=["NAME","NAME","must","NAME","by","NUMBER","else","NAME"]
noncomputable def nT:List Str:=["NAME","WHO","may","NAME"]
noncomputable def KR:List Str:=["NAME","WHO","may","not","NAME","else","NAME"]
noncomputable def ak:List Str:=["NAME","WHO","by","NAME","to","NAME"]
noncomputable def k9 (ws:List Str) (x:Str) (m:Int):List Str:=if wd ws 0≠x∨mD (ws.drop 1) m=false then [] else ws.drop 1
noncomputable def fR (ws:List Str):Option (Str × Str):=if ws.length=2∧ZX (.str (wd ws 0)) (jk.map V.str)=true∧qX (wd ws 1)=true then some (wd ws 0,wd ws 1) else none
noncomputable def QV (ws:List Str):Option (Str × Str):=if km ws JX=true then some (wd ws 1,wd ws 3) else none
noncomputable def we (ws:List Str):Option (Str × List Str):=if km (ws.take 2) rF=true then (if ws.length=2 then some (wd ws 1,[]) else if wd ws 2≠"in"∨mD (ws.drop 3) 12=false then none else some (wd ws 1,ws.drop 3)) else none
noncomputable def jQ (ws:List Str):Option (Int × Str × Str × Str × Int × Str):=
 if km ws Zi=true then some (0,wd ws 0,wd ws 1,wd ws 3,pQ (wd ws 5),wd ws 7)
 else if km ws nT=true then some (1,wd ws 0,wd ws 1,wd ws 3,0,"")
 else if km ws KR=true then some (2,wd ws 0,wd ws 1,wd ws 4,0,wd ws 6)
 else if km ws ak=true then some (3,wd ws 0,wd ws 1,wd ws 3,0,wd ws 5)
 else none
theorem bK {ws fs:List Str} (h:km ws fs=true):ws.length=fs.length:=by
 unfold km at h
 rw[Bool.and_eq_true] at h
 exact of_decide_eq_true h.1
noncomputable def Y5 (n v:Str):List (Str × V):=[("name",.str n),("value",.str v)]
noncomputable def Qn (n:Str) (a b:Addr):List (Str × V):=[("name",.str n),("rooms",.ref a),("rows",.ref b)]
theorem m1:¬(("name" : Str) = "value"):=by decide +kernel
theorem m2:¬(("name" : Str) = "rooms"):=by decide +kernel
theorem m3:¬(("name" : Str) = "rows"):=by decide +kernel
theorem m4:¬(("rooms" : Str) = "rows"):=by decide +kernel
theorem GL (n v:Str):qJ "value" (.str v) (qJ "name" (.str n) [])=Y5 n v:=by
 simp only[qJ,Y5,if_neg m1]
theorem GS (n:Str) (a b:Addr):qJ "rows" (.ref b) (qJ "rooms" (.ref a) (qJ "name" (.str n) []))=Qn n a b:=by
 simp only[qJ,Qn,if_neg m2,if_neg m3,if_neg m4]
noncomputable def B2 (t:jf) (H:Hp) (p:Addr) (n v:Str):Prop:=∃dx,H p=some (.ins t.dD dx (Y5 n v))
noncomputable def Q8 (t:jf) (H0 H:Hp) (p:Addr) (n:Str) (rs:List Str) (ys:List V):Prop:=∃dx a b,H p=some (.ins t.jF dx (Qn n a b))∧H a=some (.lst (rs.map V.str))∧H b=some (.lst ys)∧H0 a=none∧H0 b=none
noncomputable abbrev PH (t:jf) (H0 H:Hp) (p:Addr) (n:Str) (rs:List Str):Prop:=Q8 t H0 H p n rs []
theorem Q8.back {t:jf} {H0 H1 H:Hp} {p:Addr} {n:Str} {rs:List Str} {ys:List V} (h:Q8 t H1 H p n rs ys) (s:qp H0 H1):Q8 t H0 H p n rs ys:=by
 obtain⟨dx,a,b,e1,e2,e3,f1,f2⟩:=h
 exact⟨dx,a,b,e1,e2,e3,s.free f1,s.free f2⟩
noncomputable def Off (p:Addr) (H H':Hp):Prop:=∀b o,b≠p→H b=some o→H' b=some o
noncomputable def Hj (t:jf):Sp:=fun vs H Q _=>∃(p dx:Addr) (n v:Str),vs=[.ref p,.str n,.str v]∧H p=some (.ins t.dD dx [])∧Q .non (upd H p (.ins t.dD dx (Y5 n v)))
noncomputable def VZ (K:PySem.W.Frag) (t:jf):Sp:=fun vs H Q _=>∃(p dx a b:Addr) (n:Str) (xs:List Str) (ys:List V),vs=[.ref p,.str n,.ref a,.ref b]∧H p=some (.ins t.jF dx [])∧H a=some (.lst (xs.map V.str))∧H b=some (.lst ys)∧
 ∀H',Off p H H'→Q8 t H H' p n xs ys→Q .non H'
noncomputable def Wb:Sp:=fun vs H Q _=>∃(x y:Str) (m:Int),vs=[.str x,.str y,.int m]∧x.length≤190∧∀l H',qp H H'→H l=none→H' l=some (.lst ((k9 (yt x) y m).map V.str))→Q (.ref l) H'
noncomputable def X5:Sp:=fun vs H Q _=>∃(x:Str),vs=[.str x]∧x.length≤190∧∀H',qp H H'→(fR (yt x)=none→Q .non H')∧∀p m n,fR (yt x)=some (m,n)→H p=none→H' p=some (.tup [.str m,.str n])→Q (.ref p) H'
noncomputable def Wg (t:jf):Sp:=fun vs H Q _=>∃(x:Str),vs=[.str x]∧x.length≤190∧∀H',qp H H'→(QV (yt x)=none→Q .non H')∧∀p n v,QV (yt x)=some (n,v)→H p=none→B2 t H' p n v→Q (.ref p) H'
noncomputable def XA (t:jf):Sp:=fun vs H Q _=>∃(x:Str),vs=[.str x]∧x.length≤190∧∀H',qp H H'→(we (yt x)=none→Q .non H')∧∀p n rs,we (yt x)=some (n,rs)→H p=none→PH t H H' p n rs→Q (.ref p) H'
noncomputable def eP (t:jf):Sp:=fun vs H Q _=>∃(x:Str),vs=[.str x]∧x.length≤190∧∀H',qp H H'→(jQ (yt x)=none→Q .non H')∧∀p k l u a n r,jQ (yt x)=some (k,l,u,a,n,r)→H p=none→At t H' p k l u a n r→Q (.ref p) H'
theorem wj {H:Hp} {p dx:Addr} {o o2:HO} (hp:H p=none) (hdx:H dx=none):qp H (upd (upd H dx o) p o2):=fun b u e=>by rw[qW (qx e hp),qW (qx e hdx)];exact e
theorem fu {H H':Hp} {p dx:Addr} {o o2:HO} (hp:H p=none) (hdx:H dx=none) (f:Off p (upd (upd H dx o) p o2) H'):qp H H':=fun b u e=>f b u (qx e hp) (wj hp hdx b u e)
section
variable {P:Program} {w:World} {K:PySem.W.Frag} {mg:Str→Option Value} {base:Heap} {t:jf}
theorem iA (T:Txt K mg t) (H:Hp):g9 K H t.pe (jk.map V.str):=.inr T.ZN
theorem aQ:(jk.map V.str).all fk=true:=by decide +kernel
theorem eW:qm ["self","name","value"] ["self","name","value"] (z6 xC):=⟨rfl,rfl,rfl,by decide +kernel,rfl,by decide +kernel,by decide +kernel⟩
set_option maxHeartbeats 400000 in
theorem i8 (T:Txt K mg t):qr P w K mg base jy 1 t.gq t.bE ["self","name","value"] (Hj t):=by
 refine T.rG.fn.ok eW (fun vs H Q E h=>(by obtain⟨_,_,_,_,rfl,_⟩:=h;rfl)) (fun cdv A outer s H vs Q E hr h=>?_)
 obtain⟨p,dx,n,v,rfl,hp,k⟩:=h
 refine⟨_,(z7 (jE (pv 0) (pv 1) rfl)
   (qz (jE (pv 0) (pv 2) rfl))),?_⟩
 refine⟨_,rfl,_,rfl,p,_,dx,[],rfl,hp,T.az,T.uM,(by show 0 < 1000;decide),?_⟩
 refine⟨_,rfl,_,rfl,p,_,dx,_,rfl,qy,T.az,T.cf,(by show 1 < 1000;decide),?_⟩
 rw[gA,GL]
 exact k
theorem oS:qm ["self","name","rooms","rows"] ["self","name","rooms","rows"] (z6 xl):=⟨rfl,rfl,rfl,by decide +kernel,rfl,by decide +kernel,by decide +kernel⟩
set_option maxHeartbeats 400000 in
theorem pJ (T:Txt K mg t):qr P w K mg base jy 1 t.ko t.vK ["self","name","rooms","rows"] (VZ K t):=by
 refine T.yU.fn.ok oS (fun vs H Q E h=>(by obtain⟨_,_,_,_,_,_,_,rfl,_⟩:=h;rfl)) (fun cdv A outer s H vs Q E hr h=>?_)
 obtain⟨p,dx,a,b,n,xs,ys,rfl,hp,hA,hB,k⟩:=h
 refine⟨_,(z7 (jE (pv 0) (pv 1) rfl)
   (z7 (jE (pv 0) (kx (fX (K:=K) rfl) rfl T.ux PyProof.Rows.boot_list (z5 (pv 2) z8)) rfl)
   (qz (jE (pv 0) (kx (fX (K:=K) rfl) rfl T.ux PyProof.Rows.boot_list (z5 (pv 3) z8)) rfl)))),?_⟩
 have na:a≠p:=lV hA hp (by intro z;cases z)
 have nb:b≠p:=lV hB hp (by intro z;cases z)
 refine⟨_,rfl,_,rfl,p,_,dx,[],rfl,hp,T.bN,T.yF,(by show 0 < 1000;decide),?_⟩
 have o1:Off p H (upd H p (.ins t.jF dx (qJ "name" (.str n) []))):=fun c o hc e=>by rw[qW hc];exact e
 generalize hH1:upd H p (.ins t.jF dx (qJ "name" (.str n) []))=H1 at o1 ⊢
 have e1:H1 p=some (.ins t.jF dx (qJ "name" (.str n) [])):=by rw[←hH1];exact qy
 refine⟨_,rfl,a,_,rfl,.inl (qM.of (o1 _ _ na hA)),?_⟩
 intro q1 H2 s2 hq1 e2
 refine⟨_,rfl,p,_,dx,_,rfl,s2 _ _ e1,T.bN,T.bb,(by show 1 < 1000;decide),?_⟩
 have nq1:q1≠p:=Ne.symm (qx e1 hq1)
 have o2:Off p H2 (upd H2 p (.ins t.jF dx (qJ "rooms" (.ref q1) (qJ "name" (.str n) [])))):=fun c o hc e=>by rw[qW hc];exact e
 generalize hH3:upd H2 p (.ins t.jF dx (qJ "rooms" (.ref q1) (qJ "name" (.str n) [])))=H3 at o2 ⊢
 have e3:H3 p=some (.ins t.jF dx (qJ "rooms" (.ref q1) (qJ "name" (.str n) []))):=by rw[←hH3];exact qy
 refine⟨_,rfl,b,_,rfl,.inl (qM.of (o2 _ _ nb (s2 _ _ (o1 _ _ nb hB)))),?_⟩
 intro q2 H4 s4 hq2 e4
 refine⟨_,rfl,p,_,dx,_,rfl,s4 _ _ e3,T.bN,T.cm,?_,?_⟩
 ·have:=xY ("rooms" : Str) (.ref q1) (qJ "name" (.str n) [])
  have e:(qJ ("name" : Str) (.str n) []).length=1:=rfl
  omega
 have nq2:q2≠p:=Ne.symm (qx e3 hq2)
 rw[GS]
 refine k _ (fun c o hc e=>by rw[qW hc];exact s4 _ _ (o2 _ _ hc (s2 _ _ (o1 _ _ hc e)))) ⟨dx,q1,q2,qy,?_,?_,?_,?_⟩
 ·rw[qW nq1];exact s4 _ _ (o2 _ _ nq1 e2)
 ·rw[qW nq2];exact e4
 ·rw[←hH1,qW nq1] at hq1;exact hq1
 ·have z:H2 q2=none:=by rw[←hH3,qW nq2] at hq2;exact hq2
  have z1:=s2.free z
  rw[←hH1,qW nq2] at z1;exact z1
theorem dk:qm ["row","word","most","words"] ["row","word","most"] (z6 j9):=⟨rfl,rfl,rfl,by decide +kernel,rfl,by decide +kernel,by decide +kernel⟩
set_option maxHeartbeats 400000 in
theorem sR (T:Txt K mg t):qr P w K mg base jy 4 t.yP t.yW ["row","word","most"] Wb:=by
 have G_v_are_names:qr P w K mg base jy 3 t.vy t.vx ["words","most"] (XF K):=(fG T).mono (by decide)
 refine T.gZ.fn.ok dk (fun vs H Q E h=>(by obtain⟨_,_,_,rfl,_⟩:=h;rfl)) (fun cdv A outer s H vs Q E hr h=>?_)
 obtain⟨x,y,m,rfl,hx,k⟩:=h
 refine⟨_,(z7 (qu (i:=3) dk.nd rfl (Or.inl rfl) (vb PySem.F.plainAttrs_str PySem.F.slot_str_split PySem.F.type_str_split bH (pv 0) (z5 qk z8)))
   (z7 (qF (PW.pt (fD (qt ZI (qe (qw (K:=K) rfl) (pv 3) z9 (fun _ _=>rfl)) (pv 1) (qV _)) (bf (gu (vZ (qi G_v_are_names hr rfl T.xG.mg T.xG.fn.kp T.xG.bd .nil qK (z5 (x5 (xA (K:=K) rfl) (pv 3) (xJ z9) gN) (z5 (pv 2) z8))))))))
    (qz (qf (jb z8))) ql)
   (qz (qf (x5 (xA (K:=K) rfl) (pv 3) (xJ z9) gN))))),?_⟩
 walk_at "rd"
 refine⟨qv (by omega),?_⟩
 intro lw H1 s1 hlw e1
 have hS:=sg hx
 have hl:=(rJ x).1
 have e1':H1 lw=some (.lst ((yt x).map V.str)):=e1
 clear e1
 generalize yt x=ws at *
 walk_at "rd"
 refine jm (fun h1=>?_) (fun h1=>?_)
 ·have n:k9 ws y m=[]:=if_pos (.inl (Qq h1))
  walk_at "rd"
  intro l H2 s2 hl2 e2
  exact k l H2 (s1.trans s2) (s1.free hl2) (by rw[n];exact e2)
 have w0:=Qz h1
 walk_at "rd"
 intro lc H2 s2 hlc e2
 replace e2:H2 lc=some (.lst ((ws.drop 1).map V.str)):=by rw[←ba V.str ws 1];exact e2
 refine⟨_,rfl,lc,m,_,rfl,qM.of e2,hS.drop 1,fun H3 s3=>?_⟩
 walk_at "rd"
 cases hN:mD (ws.drop 1) m with
 | false=>
  refine ug ?_
  have n:k9 ws y m=[]:=if_pos (.inr hN)
  walk_at "rd"
  intro l H4 s4 hl4 e4
  exact k l H4 (((s1.trans s2).trans s3).trans s4) (((s1.trans s2).trans s3).free hl4) (by rw[n];exact e4)
 | true=>
  refine oq ?_
  have n:k9 ws y m=ws.drop 1:=if_neg (fun q=>q.elim (fun q=>q w0) (fun q=>by rw[hN] at q;cases q))
  walk_at "rd"
  intro l H4 s4 hl4 e4
  replace e4:H4 l=some (.lst ((ws.drop 1).map V.str)):=by rw[←ba V.str ws 1];exact e4
  exact k l H4 (((s1.trans s2).trans s3).trans s4) (((s1.trans s2).trans s3).free hl4) (by rw[n];exact e4)
theorem cC:qm ["row","words"] ["row"] (z6 xo):=⟨rfl,rfl,rfl,by decide +kernel,rfl,by decide +kernel,by decide +kernel⟩
set_option maxHeartbeats 400000 in
theorem oZ (T:Txt K mg t):qr P w K mg base jy 3 t.gC t.gM ["row"] X5:=by
 have G_v_is_name:qr P w K mg base jy 2 t.vY t.vV ["word"] iz:=(pX T).mono (by decide)
 refine T.bF.fn.ok cC (fun vs H Q E h=>(by obtain⟨_,rfl,_⟩:=h;rfl)) (fun cdv A outer s H vs Q E hr h=>?_)
 obtain⟨x,rfl,hx,k⟩:=h
 refine⟨_,(z7 (qu (i:=1) cC.nd rfl (Or.inl rfl) (vb PySem.F.plainAttrs_str PySem.F.slot_str_split PySem.F.type_str_split bH (pv 0) (z5 qk z8)))
   (z7 (qF (PW.pt (fD (qt ZI (qG (qN (K:=K) rfl) rfl T.kg PySem.boot_len (z5 (pv 1) z8)) z9 (qV _)) (fD (qt (mK (K:=K) rfl) (qe (qw (K:=K) rfl) (pv 1) z9 (fun _ _=>rfl)) (xf rfl T.nI (v:=.ref t.pe) rfl) rfl) (bf (gu (vZ (qi G_v_is_name hr rfl T.jR.mg T.jR.fn.kp T.jR.bd .nil qK (z5 (qe (qw (K:=K) rfl) (pv 1) z9 (fun _ _=>rfl)) z8))))))))
    (qz (qf pK)) ql)
   (qz (qf (vz (z5 (qe (qw (K:=K) rfl) (pv 1) z9 (fun _ _=>rfl)) (z5 (qe (qw (K:=K) rfl) (pv 1) z9 (fun _ _=>rfl)) z8))))))),?_⟩
 walk_at "rd"
 refine⟨qv (by omega),?_⟩
 intro lw H1 s1 hlw e1
 have hS:=sg hx
 have e1':H1 lw=some (.lst ((yt x).map V.str)):=e1
 clear e1
 generalize yt x=ws at *
 refine⟨_,rfl,lw,_,rfl,.inl (qM.of e1'),rfl,_,rfl,?_⟩
 rw[List.length_map]
 have no:∀H',qp H H'→fR ws=none→Q .non H':=fun H' s' e=>(k H' s').1 e
 refine jm (fun h1=>ug (no _ s1 (if_neg fun q=>?_))) (fun h1=>?_)
 ·rw[q.1] at h1;simp at h1
 have hl:ws.length=2:=by
  by_cases q:ws.length=2
  ·exact q
  ·exact absurd (by simp;omega) h1
 walk_at "rd"
 refine⟨_,_,rfl,.inr (iA T _),rfl,aQ,_,rfl,?_⟩
 refine jm (fun h2=>ug (no _ s1 (if_neg fun q=>?_))) (fun h2=>?_)
 ·have z:ZX (.str (wd ws 0)) (jk.map V.str)=false:=lH h2
  rw[z] at q
  cases q.2.1
 have hM:ZX (.str (wd ws 0)) (jk.map V.str)=true:=lG h2
 walk_at "rd"
 refine⟨hS.short _ (uZ (by omega)),fun H2 s2=>?_⟩
 walk_at "rd"
 refine jm (fun h3=>no _ (s1.trans s2) (if_neg fun q=>?_)) (fun h3=>?_)
 ·have z:qX (wd ws 1)=false:=lH h3
  rw[z] at q
  cases q.2.2
 have hN:qX (wd ws 1)=true:=lG h3
 walk_at "rd"
 intro p H3 s3 hp e3
 exact(k H3 ((s1.trans s2).trans s3)).2 p (wd ws 0) (wd ws 1) (if_pos ⟨hl,hM,hN⟩) ((s1.trans s2).free hp) e3
theorem uU:qm ["row","words"] ["row"] (z6 xU):=⟨rfl,rfl,rfl,by decide +kernel,rfl,by decide +kernel,by decide +kernel⟩
set_option maxHeartbeats 400000 in
theorem i9 (T:Txt K mg t):qr P w K mg base jy 5 t.pk t.b9 ["row"] (Wg t):=by
 have G_v_fits_form:qr P w K mg base jy 4 t.kq t.x9 ["words","form"] (oE K):=(gm T).mono (by decide)
 have M_Let_init:qr P w K mg base jy 3 t.gq t.bE ["self","name","value"] (Hj t):=(i8 T).mono (by decide)
 refine T.fE.fn.ok uU (fun vs H Q E h=>(by obtain⟨_,rfl,_⟩:=h;rfl)) (fun cdv A outer s H vs Q E hr h=>?_)
 obtain⟨x,rfl,hx,k⟩:=h
 refine⟨_,(z7 (qu (i:=1) uU.nd rfl (Or.inl rfl) (vb PySem.F.plainAttrs_str PySem.F.slot_str_split PySem.F.type_str_split bH (pv 0) (z5 qk z8)))
   (z7 (qF (gu (vZ (qi G_v_fits_form hr rfl T.qY.mg T.qY.fn.kp T.qY.bd .nil qK (z5 (pv 1) (z5 (jb (z5 qk (z5 qk (z5 qk (z5 qk z8))))) z8)))))
    (qz (qf pK)) ql)
   (qz (qf (kU T.J3 M_Let_init hr rfl T.V2 T.rG.bd .nil qK (z5 (qe (qw (K:=K) rfl) (pv 1) z9 (fun _ _=>rfl)) (z5 (qe (qw (K:=K) rfl) (pv 1) z9 (fun _ _=>rfl)) z8))))))),?_⟩
 walk_at "rd"
 refine⟨qv (by omega),?_⟩
 intro lw H1 s1 hlw e1
 have hS:=sg hx
 have e1':H1 lw=some (.lst ((yt x).map V.str)):=e1
 clear e1
 generalize yt x=ws at *
 walk_at "rd"
 intro lf H2 s2 hlf e2
 refine⟨lw,lf,ws,JX,rfl,qM.of (s2 _ _ e1'),qM.of e2,hS,fun H3 s3=>?_⟩
 walk_at "rd"
 refine jm (fun h3=>(k _ ((s1.trans s2).trans s3)).1 (if_neg fun q=>?_)) (fun h3=>?_)
 ·have z:km ws JX=false:=lH h3
  rw[z] at q
  cases q
 have hF:km ws JX=true:=lG h3
 have hl:ws.length=4:=bK hF
 walk_at "rd"
 intro p dx hp hdx hne
 refine⟨p,dx,_,_,rfl,qy,rfl,?_⟩
 exact(k _ (((s1.trans s2).trans s3).trans (bG hp hdx hne))).2 p _ _ (if_pos hF) (((s1.trans s2).trans s3).free hp) ⟨dx,qy⟩
theorem cD:qm ["row","words"] ["row"] (z6 xn):=⟨rfl,rfl,rfl,by decide +kernel,rfl,by decide +kernel,by decide +kernel⟩
set_option maxHeartbeats 400000 in
theorem oa (T:Txt K mg t):qr P w K mg base jy 5 t.gD t.gF ["row"] (XA t):=by
 have G_v_are_names:qr P w K mg base jy 4 t.vy t.vx ["words","most"] (XF K):=(fG T).mono (by decide)
 have G_v_fits_form:qr P w K mg base jy 4 t.kq t.x9 ["words","form"] (oE K):=(gm T).mono (by decide)
 have M_Part_init:qr P w K mg base jy 3 t.ko t.vK ["self","name","rooms","rows"] (VZ K t):=(pJ T).mono (by decide)
 refine T.bP.fn.ok cD (fun vs H Q E h=>(by obtain⟨_,rfl,_⟩:=h;rfl)) (fun cdv A outer s H vs Q E hr h=>?_)
 obtain⟨x,rfl,hx,k⟩:=h
 refine⟨_,(z7 (qu (i:=1) cD.nd rfl (Or.inl rfl) (vb PySem.F.plainAttrs_str PySem.F.slot_str_split PySem.F.type_str_split bH (pv 0) (z5 qk z8)))
   (z7 (qF (gu (vZ (qi G_v_fits_form hr rfl T.qY.mg T.qY.fn.kp T.qY.bd .nil qK (z5 (x5 (xA (K:=K) rfl) (pv 1) gN (xJ z9)) (z5 (jb (z5 qk (z5 qk z8))) z8)))))
    (qz (qf pK)) ql)
   (z7 (qF (qt xj (qG (qN (K:=K) rfl) rfl T.kg PySem.boot_len (z5 (pv 1) z8)) z9 (qV _))
    (qz (qf (kU T.cq M_Part_init hr rfl T.lg T.yU.bd .nil qK (z5 (qe (qw (K:=K) rfl) (pv 1) z9 (fun _ _=>rfl)) (z5 (jb z8) (z5 (jb z8) z8)))))) ql)
   (z7 (qF (PW.pt (fD (qt ZI (qe (qw (K:=K) rfl) (pv 1) z9 (fun _ _=>rfl)) qk (qV _)) (bf (gu (vZ (qi G_v_are_names hr rfl T.xG.mg T.xG.fn.kp T.xG.bd .nil qK (z5 (x5 (xA (K:=K) rfl) (pv 1) (xJ z9) gN) (z5 (xf rfl (T.pd).choose_spec (v:=.int 12) ⟨_,rfl⟩) z8))))))))
    (qz (qf pK)) ql)
   (qz (qf (kU T.cq M_Part_init hr rfl T.lg T.yU.bd .nil qK (z5 (qe (qw (K:=K) rfl) (pv 1) z9 (fun _ _=>rfl)) (z5 (x5 (xA (K:=K) rfl) (pv 1) (xJ z9) gN) (z5 (jb z8) z8)))))))))),?_⟩
 walk_at "rd"
 refine⟨qv (by omega),?_⟩
 intro lw H1 s1 hlw e1
 have hS:=sg hx
 have e1':H1 lw=some (.lst ((yt x).map V.str)):=e1
 clear e1
 generalize yt x=ws at *
 walk_at "rd"
 intro lc H2 s2 hlc e2
 replace e2:H2 lc=some (.lst ((ws.take 2).map V.str)):=by rw[←iF V.str ws 2];exact e2
 walk_at "rd"
 intro lf H3 s3 hlf e3
 refine⟨lc,lf,ws.take 2,rF,rfl,qM.of (s3 _ _ e2),qM.of e3,hS.take 2,fun H4 s4=>?_⟩
 have sA:qp H H4:=((s1.trans s2).trans s3).trans s4
 walk_at "rd"
 refine jm (fun h3=>(k _ sA).1 (if_neg fun q=>?_)) (fun h3=>?_)
 ·have z:km (ws.take 2) rF=false:=lH h3
  rw[z] at q
  cases q
 have hF:km (ws.take 2) rF=true:=lG h3
 have hl:2≤ws.length:=by have:(ws.take 2).length=2:=bK hF;rw[List.length_take] at this;omega
 have e4:H4 lw=some (.lst (ws.map V.str)):=s4 _ _ (s3 _ _ (s2 _ _ e1'))
 clear e1' e2 e3 s1 s2 s3 s4
 refine⟨_,rfl,lw,_,rfl,.inl (qM.of e4),rfl,_,rfl,?_⟩
 rw[List.length_map]
 refine jm (fun h4=>?_) (fun h4=>?_)
 ·have hl2:ws.length=2:=by have:=of_decide_eq_true h4;injection this with this;omega
  walk_at "rd"
  intro a1 H5 s5 ha1 e5
  walk_at "rd"
  intro a2 H6 s6 ha2 e6
  walk_at "rd"
  intro p dx hp hdx hne
  have sM:=wj (o:=HO.own p) (o2:=HO.ins t.jF dx []) hp hdx
  refine⟨p,dx,a1,a2,_,[],[],rfl,qy,sM _ _ (s6 _ _ e5),sM _ _ e6,fun H7 o7 h7=>⟨rfl,?_⟩⟩
  exact(k H7 (((sA.trans s5).trans s6).trans (fu hp hdx o7))).2 p _ _ (by unfold we;rw[if_pos hF,if_pos hl2];rfl) (((sA.trans s5).trans s6).free hp) (h7.back (((sA.trans s5).trans s6).trans sM))
 have hl3:¬ws.length=2:=fun q=>h4 (decide_eq_true (by rw[q];rfl))
 walk_at "rd"
 refine jm (fun h5=>ug ((k _ sA).1 ?_)) (fun h5=>?_)
 ·unfold we
  rw[if_pos hF,if_neg hl3,if_pos (.inl (Qq h5))]
 have hin:wd ws 2 = "in":=Qz h5
 walk_at "rd"
 intro lc H5 s5 hlc e5
 replace e5:H5 lc=some (.lst ((ws.drop 3).map V.str)):=by rw[←ba V.str ws 3];exact e5
 refine⟨lc,_,_,rfl,qM.of e5,hS.drop 3,fun H6 s6=>?_⟩
 walk_at "rd"
 refine jm (fun h6=>(k _ ((sA.trans s5).trans s6)).1 ?_) (fun h6=>?_)
 ·unfold we
  rw[if_pos hF,if_neg hl3,if_pos (.inr (lH h6))]
 have hN:mD (ws.drop 3) 12=true:=lG h6
 have e6:H6 lw=some (.lst (ws.map V.str)):=s6 _ _ (s5 _ _ e4)
 clear e4 e5
 walk_at "rd"
 intro a1 H7 s7 ha1 e7
 replace e7:H7 a1=some (.lst ((ws.drop 3).map V.str)):=by rw[←ba V.str ws 3];exact e7
 walk_at "rd"
 intro a2 H8 s8 ha2 e8
 walk_at "rd"
 intro p dx hp hdx hne
 have sM:=wj (o:=HO.own p) (o2:=HO.ins t.jF dx []) hp hdx
 refine⟨p,dx,a1,a2,_,_,[],rfl,qy,sM _ _ (s8 _ _ e7),sM _ _ e8,fun H9 o9 h9=>⟨rfl,?_⟩⟩
 exact(k H9 (((((sA.trans s5).trans s6).trans s7).trans s8).trans (fu hp hdx o9))).2 p _ _ (by unfold we;rw[if_pos hF,if_neg hl3,if_neg (fun q=>q.elim (fun q=>q hin) (fun q=>by rw[hN] at q;cases q))];rfl) (((((sA.trans s5).trans s6).trans s7).trans s8).free hp) (h9.back (((((sA.trans s5).trans s6).trans s7).trans s8).trans sM))
theorem fT:qm ["row","words"] ["row"] (z6 jH):=⟨rfl,rfl,rfl,by decide +kernel,rfl,by decide +kernel,by decide +kernel⟩
set_option maxHeartbeats 400000 in
theorem lP (T:Txt K mg t):qr P w K mg base jy 5 t.yq t.wI ["row"] (eP t):=by
 have G_v_fits_form:qr P w K mg base jy 4 t.kq t.x9 ["words","form"] (oE K):=(gm T).mono (by decide)
 have G_v_number_of:qr P w K mg base jy 4 t.vg t.vk ["word"] XE:=(fH T).mono (by decide)
 have M_Ban_init:qr P w K mg base jy 3 t.wU t.bO ["self","label","who","act","room"] (Va K):=(i7 T).mono (by decide)
 have M_Clause_init:qr P w K mg base jy 3 t.qR t.xa ["self","label","who","act"] (XT K):=(wt T).mono (by decide)
 have M_Duty_init:qr P w K mg base jy 3 t.vW t.gB ["self","label","who","act","turns","room"] (G9 K):=(ou T).mono (by decide)
 have M_Power_init:qr P w K mg base jy 3 t.kH t.yV ["self","label","who","act","room"] (Va K):=(sP T).mono (by decide)
 refine T.yn.fn.ok fT (fun vs H Q E h=>(by obtain⟨_,rfl,_⟩:=h;rfl)) (fun cdv A outer s H vs Q E hr h=>?_)
 obtain⟨x,rfl,hx,k⟩:=h
 refine⟨_,(z7 (qu (i:=1) fT.nd rfl (Or.inl rfl) (vb PySem.F.plainAttrs_str PySem.F.slot_str_split PySem.F.type_str_split bH (pv 0) (z5 qk z8)))
   (z7 (qF (vZ (qi G_v_fits_form hr rfl T.qY.mg T.qY.fn.kp T.qY.bd .nil qK (z5 (pv 1) (z5 (jb (z5 qk (z5 qk (z5 qk (z5 qk (z5 qk (z5 qk (z5 qk (z5 qk z8))))))))) z8))))
    (qz (qf (kU T.og M_Duty_init hr rfl T.JO T.cA.bd .nil qK (z5 (qe (qw (K:=K) rfl) (pv 1) z9 (fun _ _=>rfl)) (z5 (qe (qw (K:=K) rfl) (pv 1) z9 (fun _ _=>rfl)) (z5 (qe (qw (K:=K) rfl) (pv 1) z9 (fun _ _=>rfl)) (z5 (qi G_v_number_of hr rfl T.xH.mg T.xH.fn.kp T.xH.bd .nil qK (z5 (qe (qw (K:=K) rfl) (pv 1) z9 (fun _ _=>rfl)) z8)) (z5 (qe (qw (K:=K) rfl) (pv 1) z9 (fun _ _=>rfl)) z8)))))))) ql)
   (z7 (qF (vZ (qi G_v_fits_form hr rfl T.qY.mg T.qY.fn.kp T.qY.bd .nil qK (z5 (pv 1) (z5 (jb (z5 qk (z5 qk (z5 qk (z5 qk z8))))) z8))))
    (qz (qf (kU T.lZ M_Clause_init hr rfl T.ow T.vJ.bd .nil qK (z5 (qe (qw (K:=K) rfl) (pv 1) z9 (fun _ _=>rfl)) (z5 (qe (qw (K:=K) rfl) (pv 1) z9 (fun _ _=>rfl)) (z5 (qe (qw (K:=K) rfl) (pv 1) z9 (fun _ _=>rfl)) z8)))))) ql)
   (z7 (qF (vZ (qi G_v_fits_form hr rfl T.qY.mg T.qY.fn.kp T.qY.bd .nil qK (z5 (pv 1) (z5 (jb (z5 qk (z5 qk (z5 qk (z5 qk (z5 qk (z5 qk (z5 qk z8)))))))) z8))))
    (qz (qf (kU T.aJ M_Ban_init hr rfl T.V1 T.rW.bd .nil qK (z5 (qe (qw (K:=K) rfl) (pv 1) z9 (fun _ _=>rfl)) (z5 (qe (qw (K:=K) rfl) (pv 1) z9 (fun _ _=>rfl)) (z5 (qe (qw (K:=K) rfl) (pv 1) z9 (fun _ _=>rfl)) (z5 (qe (qw (K:=K) rfl) (pv 1) z9 (fun _ _=>rfl)) z8))))))) ql)
   (z7 (qF (vZ (qi G_v_fits_form hr rfl T.qY.mg T.qY.fn.kp T.qY.bd .nil qK (z5 (pv 1) (z5 (jb (z5 qk (z5 qk (z5 qk (z5 qk (z5 qk (z5 qk z8))))))) z8))))
    (qz (qf (kU T.lQ M_Power_init hr rfl T.ZM T.dy.bd .nil qK (z5 (qe (qw (K:=K) rfl) (pv 1) z9 (fun _ _=>rfl)) (z5 (qe (qw (K:=K) rfl) (pv 1) z9 (fun _ _=>rfl)) (z5 (qe (qw (K:=K) rfl) (pv 1) z9 (fun _ _=>rfl)) (z5 (qe (qw (K:=K) rfl) (pv 1) z9 (fun _ _=>rfl)) z8))))))) ql)
   (qz (qf pK))))))),?_⟩
 walk_at "rd"
 refine⟨qv (by omega),?_⟩
 intro lw H1 s1 hlw e1
 have hS:=sg hx
 have e1':H1 lw=some (.lst ((yt x).map V.str)):=e1
 clear e1
 generalize yt x=ws at *
 walk_at "rd"
 intro lf H2 s2 hlf e2
 refine⟨lw,lf,ws,Zi,rfl,qM.of (s2 _ _ e1'),qM.of e2,hS,fun H3 s3=>?_⟩
 have e3:H3 lw=some (.lst (ws.map V.str)):=s3 _ _ (s2 _ _ e1')
 have sA:qp H H3:=(s1.trans s2).trans s3
 clear e1' e2 s1 s2 s3
 walk_at "rd"
 refine jm (fun h1=>?_) (fun h1=>?_)
 ·have hl:ws.length=8:=bK h1
  walk_at "rd"
  refine⟨hS.short _ (uZ (by omega)),fun H4 s4=>?_⟩
  have e4:H4 lw=some (.lst (ws.map V.str)):=s4 _ _ e3
  clear e3
  walk_at "rd"
  intro p dx hp hdx hne
  refine⟨p,_,dx,_,_,_,_,_,_,rfl,Zc T,qy,rfl,?_⟩
  exact(k _ ((sA.trans s4).trans (bG hp hdx hne))).2 p 0 _ _ _ _ _ (by unfold jQ;rw[if_pos h1];rfl) ((sA.trans s4).free hp) ⟨dx,qy⟩
 have f1:¬km ws Zi=true:=h1
 walk_at "rd"
 intro lf2 H4 s4 hlf2 e4
 refine⟨lw,lf2,ws,nT,rfl,qM.of (s4 _ _ e3),qM.of e4,hS,fun H5 s5=>?_⟩
 have e5:H5 lw=some (.lst (ws.map V.str)):=s5 _ _ (s4 _ _ e3)
 have sB:qp H H5:=(sA.trans s4).trans s5
 clear e3 e4 s4 s5 sA
 walk_at "rd"
 refine jm (fun h2=>?_) (fun h2=>?_)
 ·have hl:ws.length=4:=bK h2
  walk_at "rd"
  intro p dx hp hdx hne
  refine⟨p,_,dx,_,_,_,_,rfl,iK T,qy,rfl,?_⟩
  exact(k _ (sB.trans (bG hp hdx hne))).2 p 1 _ _ _ 0 "" (by unfold jQ;rw[if_neg f1,if_pos h2];rfl) (sB.free hp) ⟨dx,qy⟩
 have f2:¬km ws nT=true:=h2
 walk_at "rd"
 intro lf3 H6 s6 hlf3 e6
 refine⟨lw,lf3,ws,KR,rfl,qM.of (s6 _ _ e5),qM.of e6,hS,fun H7 s7=>?_⟩
 have e7:H7 lw=some (.lst (ws.map V.str)):=s7 _ _ (s6 _ _ e5)
 have sC:qp H H7:=(sB.trans s6).trans s7
 clear e5 e6 s6 s7 sB
 walk_at "rd"
 refine jm (fun h3=>?_) (fun h3=>?_)
 ·have hl:ws.length=7:=bK h3
  walk_at "rd"
  intro p dx hp hdx hne
  refine⟨p,_,dx,_,_,_,_,_,rfl,Jm T,qy,rfl,?_⟩
  exact(k _ (sC.trans (bG hp hdx hne))).2 p 2 _ _ _ 0 _ (by unfold jQ;rw[if_neg f1,if_neg f2,if_pos h3];rfl) (sC.free hp) ⟨dx,qy⟩
 have f3:¬km ws KR=true:=h3
 walk_at "rd"
 intro lf4 H8 s8 hlf4 e8
 refine⟨lw,lf4,ws,ak,rfl,qM.of (s8 _ _ e7),qM.of e8,hS,fun H9 s9=>?_⟩
 have e9:H9 lw=some (.lst (ws.map V.str)):=s9 _ _ (s8 _ _ e7)
 have sD:qp H H9:=(sC.trans s8).trans s9
 clear e7 e8 s8 s9 sC
 walk_at "rd"
 refine jm (fun h4=>?_) (fun h4=>?_)
 ·have hl:ws.length=6:=bK h4
  walk_at "rd"
  intro p dx hp hdx hne
  refine⟨p,_,dx,_,_,_,_,_,rfl,iV T,qy,rfl,?_⟩
  exact(k _ (sD.trans (bG hp hdx hne))).2 p 3 _ _ _ 0 _ (by unfold jQ;rw[if_neg f1,if_neg f2,if_neg f3,if_pos h4];rfl) (sD.free hp) ⟨dx,qy⟩
 exact(k _ sD).1 (by unfold jQ;rw[if_neg f1,if_neg f2,if_neg f3,if_neg h4])
end
theorem boot_set:bootBuiltins (Str.ofString "set")=some (Value.type "set"):=by kernel_rfl
noncomputable def Ku (t:jf) (n:Int) (H:Hp):XK:=fun c o H'=>∃a,o=some a∧c=.ref t.yh∧qp H H'∧VL H' a t.yh [("row",.int n)]
theorem Ku.back {t:jf} {n:Int} {H0 H:Hp} {c:Value} {o:Option Addr} {H':Hp} (h:Ku t n H c o H') (s:qp H0 H):Ku t n H0 c o H':=by
 obtain⟨a,h1,h2,h3,h4⟩:=h
 exact⟨a,h1,h2,s.trans h3,h4⟩
noncomputable def ue (K:PySem.W.Frag) (f:Str):Sp:=fun vs H Q _=>∃(a C:Addr) (v:V),vs=[.ref a,v]∧Kc K C∧qo K C f∧H a=some (xN a C none)∧∀dx,H dx=none→dx≠a→Q .non (upd (upd H dx (xD dx [(f,v)])) a (xN a C (some dx)))
structure uz (rows:List Str):Prop where
 nN:rows.length≤400
 short:∀x∈rows,x.length≤190
noncomputable def wL (rows:List Str) (i:Nat) (x:Str) (m:Int) (taken:List Str):Option (List Str):=
 if i=rows.length then none else
  let ns:=k9 (yt (wd rows i)) x m
  if ns=[]∨¬(taken ++ ns).Nodup then none else some ns
theorem WN {z:Str} {c:Nat} (h:has z c=true):c∈z.cps.toList:=by
 unfold has at h
 rw[StrLaws.found_one] at h
 simpa using h
theorem cn {x:Str} (h:qX x=true):asc x:=fun c hc=>by
 unfold qX pO at h
 (simp only[Bool.and_eq_true] at h)
 exact ZP.2.2 c (WN (List.all_eq_true.mp h.1.2 c hc))
theorem tL {ws:List Str} {x:Str} {m:Int}:(k9 ws x m).length≤ws.length∧∀y∈k9 ws x m,qX y=true:=by
 unfold k9
 split
 ·exact⟨Nat.zero_le _,fun y hy=>by cases hy⟩
 ·rename_i h
  refine⟨by rw[List.length_drop];omega,fun y hy=>?_⟩
  have:mD (ws.drop 1) m=true:=by
   cases q:mD (ws.drop 1) m with
   | true=>rfl
   | false=>exact absurd (.inr q) h
  unfold mD at this
  rw[Bool.and_eq_true] at this
  exact List.all_eq_true.mp this.2 y hy
noncomputable def aI (K:PySem.W.Frag):Sp:=fun vs H Q _=>∃(l:Addr) (zs:List Str),vs=[.ref l]∧qM K H l (zs.map V.str)∧zs.length < 1000∧∀H',qp H H'→Q (.bl (decide zs.Nodup)) H'
noncomputable def Hx (K:PySem.W.Frag) (t:jf):Sp:=fun vs H Q E=>∃(a b:Addr) (i:Nat) (x:Str) (m:Int) (rows taken:List Str),vs=[.ref a,.int i,.str x,.int m,.ref b]∧qM K H a (rows.map V.str)∧H b=some (.lst (taken.map V.str))∧i≤rows.length∧uz rows∧taken.length≤300∧m≤100∧
 (wL rows i x m taken=none→∀c o H',Ku t i H c o H'→E c o H')∧∀ns l H',wL rows i x m taken=some ns→qp H H'→H l=none→H' l=some (.lst (ns.map V.str))→Q (.ref l) H'
section
variable {P:Program} {w:World} {K:PySem.W.Frag} {mg:Str→Option Value} {base:Heap} {t:jf}
theorem lE:qm ["self","row"] ["self","row"] (z6 jW):=⟨rfl,rfl,rfl,by decide +kernel,rfl,by decide +kernel,by decide +kernel⟩
set_option maxHeartbeats 400000 in
theorem gp (T:Txt K mg t):qr P w K mg base jy 1 t.xZ t.x8 ["self","row"] (ue K "row"):=by
 refine T.xW.fn.ok lE (fun vs H Q E h=>(by obtain⟨_,_,_,rfl,_⟩:=h;rfl)) (fun cdv A outer s H vs Q E hr h=>?_)
 obtain⟨a,C,v,rfl,c,n,e,k⟩:=h
 exact⟨_,(qz (oY (pv 0) (pv 1) rfl)),_,rfl,_,rfl,a,C,rfl,c,n,.inl ⟨e,k⟩⟩
theorem aC {C:Addr} {f:Str} {v:V} {H:Hp} {E:XK} {X:XK} (c:Kc K C) (n:qo K C f) (xc:gQ K C=true) (k:∀a H',qp H H'→VL H' a C [(f,v)]→E (.ref C) (some a) H') :
  ∀a,H a=none→ue K f (.ref a :: ([v] ++ [])) (upd H a (xN a C none)) (fun u H2=>u=.non∧∃a' C' d,V.ref a=.ref a'∧gQ K C'=true∧H2 a'=some (xN a' C' d)∧E (.ref C') (some a') (upd H2 a' (xO a' C' d))) X:=by
 intro a ha
 refine⟨a,C,v,rfl,c,n,qy,fun dx hd hne=>⟨rfl,a,C,some dx,rfl,xc,qy,k a _ (fun b o e=>?_) (.inr ⟨dx,qy,?_⟩)⟩⟩
 ·have q:=qx e ha
  have e':(upd H a (xN a C none)) b=some o:=by rw[qW q];exact e
  rw[qW q,qW q,qW (qx e' hd)];exact e'
 ·rw[qW hne,qW hne];exact qy
theorem pV (T:Txt K mg t) {n:Int} {H:Hp} {E:XK} {X:XK} (k:∀c o H',Ku t n H c o H'→E c o H') :
  ∀a,H a=none→ue K "row" (.ref a :: ([V.int n] ++ [])) (upd H a (xN a t.yh none)) (fun u H2=>u=.non∧∃a' C' d,V.ref a=.ref a'∧gQ K C'=true∧H2 a'=some (xN a' C' d)∧E (.ref C') (some a') (upd H2 a' (xO a' C' d))) X:=
 aC T.nX T.m8 T.vH.xc fun a H' s x=>k _ _ _ ⟨a,rfl,rfl,s,x⟩
theorem sx:qm ["names"] ["names"] (z6 jP):=⟨rfl,rfl,rfl,by decide +kernel,rfl,by decide +kernel,by decide +kernel⟩
set_option maxHeartbeats 400000 in
theorem fB (T:Txt K mg t):qr P w K mg base jy 1 t.vh t.vw ["names"] (aI K):=by
 refine T.xB.fn.ok sx (fun vs H Q E h=>(by obtain⟨_,_,rfl,_⟩:=h;rfl)) (fun cdv A outer s H vs Q E hr h=>?_)
 obtain⟨l,zs,rfl,hl,hn,k⟩:=h
 refine⟨_,(qz (qf (gT xj (qG Qf rfl T.kg PySem.boot_len (z5 (kx (Vz (K:=K) rfl rfl) rfl T.VT boot_set (z5 (pv 0) z8)) z8)) (qG (qN (K:=K) rfl) rfl T.kg PySem.boot_len (z5 (pv 0) z8)) (qV _)))),?_⟩
 refine⟨_,rfl,l,zs,rfl,hl,hn,fun a ha=>?_⟩
 refine⟨a,_,rfl,qy,?_⟩
 have s1:qp H (upd H a (Gz P w a (iM [] zs))):=qp.QY ha
 refine⟨_,rfl,l,_,rfl,.inl (s1.seq hl),rfl,?_⟩
 rw[show decide (V.int ((iM [] zs:Nat):Int)=V.int ((zs.map V.str).length:Nat))=decide zs.Nodup from by rw[List.length_map,←WB];simp]
 exact k _ s1
theorem pL:qm ["rows","number","word","most","taken","names"] ["rows","number","word","most","taken"] (z6 jn):=⟨rfl,rfl,rfl,by decide +kernel,rfl,by decide +kernel,by decide +kernel⟩
set_option maxHeartbeats 400000 in
theorem uA (T:Txt K mg t):qr P w K mg base (pT P w) 6 t.vE t.vS ["rows","number","word","most","taken"] (Hx K t):=by
 have G_v_names_of:qr P w K mg base jy 5 t.yP t.yW ["row","word","most"] Wb:=(sR T).mono (by decide)
 have G_v_told_once:qr P w K mg base jy 5 t.vh t.vw ["names"] (aI K):=(fB T).mono (by decide)
 have M_NoText_init:qr P w K mg base jy 4 t.xZ t.x8 ["self","row"] (ue K "row"):=(gp T).mono (by decide)
 refine T.xi.fn.Xh pL (fun vs H Q E h=>(by obtain⟨_,_,_,_,_,_,_,rfl,_⟩:=h;rfl)) (fun cdv A outer s H vs Q E hr h=>?_)
 obtain⟨a,b,i,x,m,rows,taken,rfl,hA,hB,hi,hR,hT,hm,kE,kQ⟩:=h
 refine⟨_,(z7 (qF (qt xj (pv 1) (qG (qN (K:=K) rfl) rfl T.kg PySem.boot_len (z5 (pv 0) z8)) (qV _))
    (qz (wQ yM rfl (wa T.vH M_NoText_init hr rfl T.gx T.xW.bd .nil qK (z5 (pv 1) z8)))) ql)
   (z7 (qu (i:=5) pL.nd rfl (Or.inl rfl) (qi G_v_names_of hr rfl T.gZ.mg T.gZ.fn.kp T.gZ.bd .nil qK (z5 (qe (qw (K:=K) rfl) (pv 0) (pv 1) (fun _ _=>rfl)) (z5 (pv 2) (z5 (pv 3) z8)))))
   (z7 (qF (PW.pt (fD (qt (oQ (K:=K) rfl hr.units) (pv 5) (jb z8) (qV _)) (bf (gu (vZ (qi G_v_told_once hr rfl T.xB.mg T.xB.fn.kp T.xB.bd .nil qK (z5 (qg dZ (pv 4) (pv 5)) z8)))))))
    (qz (wQ yM rfl (wa T.vH M_NoText_init hr rfl T.gx T.xW.bd .nil qK (z5 (pv 1) z8)))) ql)
   (qz (qf (pv 5)))))),?_⟩
 walk_at "rd"
 refine⟨a,_,rfl,.inl hA,rfl,_,rfl,?_⟩
 refine jm (fun h1=>?_) (fun h1=>?_)
 ·walk_at "rd"
  exact pV T (kE (by
   have:(i:Int)=((rows.map V.str).length:Nat):=by simpa using h1
   rw[List.length_map] at this
   unfold wL;rw[if_pos (by omega)]))
 have hi':i < rows.length:=by
  have:¬(i:Int)=((rows.map V.str).length:Nat):=by simpa using h1
  rw[List.length_map] at this;omega
 have hwd:wd rows i∈rows:=uZ hi'
 have eR:wL rows i x m taken=(if k9 (yt (wd rows i)) x m=[]∨¬(taken ++ k9 (yt (wd rows i)) x m).Nodup then none else some (k9 (yt (wd rows i)) x m)):=by
  unfold wL;rw[if_neg (by omega)]
 walk_at "rd"
 simp only[Int.toNat_natCast]
 refine⟨hR.short _ hwd,fun l H1 s1 hl e1=>?_⟩
 have e1':H1 l=some (.lst ((k9 (yt (wd rows i)) x m).map V.str)):=e1
 clear e1
 have hn:=@tL (yt (wd rows i)) x m
 have hw:=(rJ (wd rows i)).2
 have hw2:=hR.short _ hwd
 have hb:(k9 (yt (wd rows i)) x m).length≤192:=by omega
 have ho:=hn.2
 clear hn hw hw2
 generalize k9 (yt (wd rows i)) x m=ns at *
 have sh:SeqAt.shaped (.list (ns.map PyData.str))=true:=fN fun y hy=>(cn (ho y hy)).ok
 walk_at "rd"
 intro l2 H2 s2 hl2 e2
 have sh0:SeqAt.shaped (.list (([]:List Str).map PyData.str))=true:=fN (xs:=[]) fun y hy=>by cases hy
 refine⟨_,_,sY.lst (qM.of (s2 _ _ e1')) (pE.strs ns),sY.lst (qM.of e2) (pE.strs []),sh,sh0,_,rfl,?_⟩
 rw[JJ]
 refine jm (fun h2=>?_) (fun h2=>?_)
 ·walk_at "rd"
  exact pV T fun c o H' z=>kE (by rw[eR,if_pos (.inl (of_decide_eq_true h2))]) c o H' (z.back (s1.trans s2))
 have hne:¬ns=[]:=fun q=>h2 (decide_eq_true q)
 walk_at "rd"
 refine⟨b,l,_,_,rfl,rfl,s2 _ _ (s1 _ _ hB),s2 _ _ e1',qv (by simp only[List.length_map];omega),?_⟩
 intro l3 H3 s3 hl3 e3
 refine⟨l3,taken ++ ns,rfl,qM.of (by rw[e3,List.map_append]),(by rw[List.length_append];omega),fun H4 s4=>?_⟩
 have sA:qp H H4:=((s1.trans s2).trans s3).trans s4
 walk_at "rd"
 refine jm (fun h3=>?_) (fun h3=>?_)
 ·walk_at "rd"
  exact pV T fun c o H' z=>kE (by rw[eR,if_pos (.inr (of_decide_eq_false (lH h3)))]) c o H' (z.back sA)
 walk_at "rd"
 exact kQ ns l H4 (by rw[eR,if_neg (fun q=>q.elim hne (fun q=>q (of_decide_eq_true (lG h3))))]) sA hl (s4 _ _ (s3 _ _ (s2 _ _ e1')))
noncomputable def xV (taken:List Str):List (Str × Str)→List Str→Except Nat (List (Str × Str))
 | found,[]=>if found=[] then .error 2 else .ok found
 | found,x :: r=>match fR (yt x) with
  | none=>if found=[] then .error 2 else .ok found
  | some mn=>if found.length=12∨¬(taken ++ (found ++ [mn]).map (·.2)).Nodup then .error (2 + found.length) else xV taken (found ++ [mn]) r
noncomputable def vc (H:Hp) (v:V) (mn:Str × Str):Prop:=∃p,v=.ref p∧H p=some (.tup [.str mn.1,.str mn.2])
noncomputable def uT (mn:Str × Str):Prop:=mn.1∈jk∧qX mn.2=true
theorem Xa {ws:List Str} {m n:Str} (h:fR ws=some (m,n)):uT (m,n):=by
 unfold fR at h
 split at h
 ·rename_i q
  cases h
  rw[mJ] at q
  exact⟨of_decide_eq_true q.2.1,q.2.2⟩
 ·cases h
theorem J0:∀x∈jk,PyData.strOk x=true:=by decide +kernel
noncomputable def Y8 (mn:Str × Str):PyData:=.tuple [.str mn.1,.str mn.2]
theorem Xi:∀{fnd:List (Str × Str)},(∀mn∈fnd,uT mn)→PyData.canLayAll0 (fnd.map Y8)=true∧PyData.depthAll (fnd.map Y8)≤2
 | [],_=>⟨rfl,Nat.zero_le _⟩
 | mn :: r,h=>by
  have q:=Xi (fnd:=r) fun x hx=>h x (List.mem_cons_of_mem _ hx)
  have h1:=J0 _ (h mn List.mem_cons_self).1
  have h2:=(cn (h mn List.mem_cons_self).2).ok
  have q2:=q.2
  simp [PyData.canLayAll0,PyData.canLay0,PyData.depthAll,PyData.depth,Y8,q.1,h1,h2]
  omega
theorem QU {fnd:List (Str × Str)} (h:∀mn∈fnd,uT mn):SeqAt.shaped (.list (fnd.map Y8))=true:=by
 have q:=Xi h
 simp [SeqAt.shaped,PyData.canLay0,PyData.depth,q.1]
 omega
theorem vc.same {H H':Hp} {v:V} {mn:Str × Str} (h:vc H v mn) (s:qp H H'):vc H' v mn:=by
 obtain⟨p,e,q⟩:=h
 exact⟨p,e,s _ _ q⟩
theorem vc.keeps {H H':Hp} {v:V} {mn:Str × Str} {l:Addr} {xs:List V} (h:vc H v mn) (k:Keeps l H H') (e:H l=some (.lst xs)):vc H' v mn:=by
 obtain⟨p,e',q⟩:=h
 exact⟨p,e',k.look q (lV q e (by intro z;cases z))⟩
theorem Paired.snoc {α β:Type} {F:α→β→Prop} {a:α} {b:β}:∀{xs:List α} {ys:List β},Paired F xs ys→F a b→Paired F (xs ++ [a]) (ys ++ [b])
 | [],[],_,h=>.cons h .nil
 | _ :: _,_ :: _,.cons h t,q=>.cons h (Paired.snoc t q)
noncomputable def YL (H:Hp) (y:V):List (Option V):=match y with
 | .ref p=>(match H p with | some (.tup [u,v])=>[some u,some v] | _=>[none,none])
 | _=>[none,none]
theorem VP (H:Hp) (y:V):(YL H y).length=2:=by
 unfold YL
 split
 ·split<;>rfl
 ·rfl
theorem Paired.W7 {α β:Type} {F:α→β→Prop} {a:α}:∀{xs:List α} {ys:List β},Paired F xs ys→a∈xs→∃b∈ys,F a b
 | _ :: _,_ :: _,.cons h t,q=>by
  rcases List.mem_cons.mp q with rfl | q
  ·exact⟨_,List.mem_cons_self,h⟩
  ·obtain⟨b,hb,hF⟩:=Paired.W7 t q
   exact⟨b,List.mem_cons_of_mem _ hb,hF⟩
theorem lS {H:Hp}:∀{vs:List V} {fnd:List (Str × Str)} {ys:List V},Paired (vc H) vs fnd→Paired (fun y v=>∀p m n,y=V.ref p→H p=some (.tup [.str m,.str n])→v=V.str n) vs ys→ys=(fnd.map (·.2)).map V.str
 | [],[],[],_,_=>rfl
 | _ :: _,_ :: _,_ :: _,.cons ⟨p,e,q⟩ t,.cons h t'=>by
  rw[h p _ _ e q,lS t t']
  rfl
theorem eJ {K:PySem.W.Frag} {H:Hp}:∀{vs:List V} {fnd:List (Str × Str)},Paired (vc H) vs fnd→pE K H vs (fnd.map Y8)
 | [],[],_=>.nil
 | _ :: _,_ :: _,.cons ⟨p,e,q⟩ t=>by
  subst e
  exact .cons (sY.tup (g9.of q) (.cons (.str _) (.cons (.str _) .nil))) (eJ t)
theorem YJ (fnd:List (Str × Str)):PyData.eqv (.list (fnd.map Y8)) (.list (([]:List Str).map PyData.str))=decide (fnd=[]):=by
 cases fnd<;>simp [PyData.eqv,PyData.eqvAll]
noncomputable def Hk (K:PySem.W.Frag) (t:jf):Sp:=fun vs H Q E=>∃(a b:Addr) (rows taken:List Str),vs=[.ref a,.ref b]∧qM K H a (rows.map V.str)∧H b=some (.lst (taken.map V.str))∧uz rows∧taken.length≤400∧
 (∀n:Nat,xV taken [] (rows.drop 2)=.error n→∀c o H',Ku t n H c o H'→E c o H')∧∀rs l H' vs,xV taken [] (rows.drop 2)=.ok rs→qp H H'→H l=none→H' l=some (.lst vs)→Paired (vc H') vs rs→Q (.ref l) H'
theorem ve:qm ["rows","taken","rooms","row","room"] ["rows","taken"] (z6 jv):=⟨rfl,rfl,rfl,by decide +kernel,rfl,by decide +kernel,by decide +kernel⟩
set_option maxHeartbeats 400000 in
theorem u0 (T:Txt K mg t):qr P w K mg base (pT P w) 6 t.vA t.vT ["rows","taken"] (Hk K t):=by
 have G_v_room_of:qr P w K mg base jy 5 t.gC t.gM ["row"] X5:=(oZ T).mono (by decide)
 have G_v_told_once:qr P w K mg base jy 5 t.vh t.vw ["names"] (aI K):=(fB T).mono (by decide)
 have M_NoText_init:qr P w K mg base jy 4 t.xZ t.x8 ["self","row"] (ue K "row"):=(gp T).mono (by decide)
 refine T.wG.fn.Xh ve (fun vs H Q E h=>(by obtain⟨_,_,_,_,rfl,_⟩:=h;rfl)) (fun cdv A outer s H vs Q E hr h=>?_)
 obtain⟨a,b,rows,taken,rfl,hA,hB,hR,hT,kE,kQ⟩:=h
 refine⟨_,(z7 (qu (i:=2) ve.nd rfl (Or.inl rfl) (jb z8) pY)
   (z7 (PS.join (wZ PassesOwn.leaving rfl (vm (K:=K) rfl (x5 (xA (K:=K) rfl) (pv 0) (xJ (xf rfl (T.wq).choose_spec (v:=.int 2) ⟨_,rfl⟩)) gN)) (jr (i:=3) ve.nd rfl (Or.inl rfl))
    (z7 (qu (i:=4) ve.nd rfl (Or.inl rfl) (qi G_v_room_of hr rfl T.bF.mg T.bF.fn.kp T.bF.bd .nil qK (z5 (pv 3) z8)))
   (z7 (qF (qt Xf (pv 4) pK (qV _))
    (qz (Xn)) ql)
   (z7 (qF (PW.pt (fD (qt xj (qG (qN (K:=K) rfl) rfl T.kg PySem.boot_len (z5 (pv 2) z8)) (xf rfl (T.pd).choose_spec (v:=.int 12) ⟨_,rfl⟩) (qV _)) (bf (gu (vZ (qi G_v_told_once hr rfl T.xB.mg T.xB.fn.kp T.xB.bd .nil qK (z5 (qg dZ (pv 1) (nk (osc:=z6 jv) (N:=["rows","taken","rooms","row","room"]) (xs:=["mark","name"]) (names:=[]) (qD:=[]) rfl rfl rfl ⟨rfl,by decide +kernel,by decide +kernel,by decide +kernel,by decide +kernel,rfl,by decide +kernel,by decide +kernel⟩ (vm (K:=K) rfl (qg dZ (pv 2) (jb (z5 (pv 4) z8)))) (fun _ _ _=>(cW (K:=K) (n:=2) rfl rfl (vf (jr (i:=0) (show (["mark","name"]:List Str).Nodup from by decide +kernel) rfl (.inl (iI rfl)) (.inr (iI rfl))) (vf (jr (i:=1) (show (["mark","name"]:List Str).Nodup from by decide +kernel) rfl (.inl (iI rfl)) (.inr (iI rfl))) cY)) rfl rfl)) (fun _ _ _=>Z1) (fun _ _ _=>(pv 1)))) z8)))))))
    (qz (wQ yM rfl (wa T.vH M_NoText_init hr rfl T.gx T.xW.bd .nil qK (z5 (qg jI (xf rfl (T.wq).choose_spec (v:=.int 2) ⟨_,rfl⟩) (qG (qN (K:=K) rfl) rfl T.kg PySem.boot_len (z5 (pv 2) z8))) z8)))) ql)
   (qz (jU (vb PySem.F.plainAttrs_list PySem.F.slot_list_append PySem.F.type_list_append kj (pv 2) (z5 (pv 4) z8)))))))))
   (z7 (qF (qt (oQ (K:=K) rfl hr.units) (pv 2) (jb z8) (qV _))
    (qz (wQ yM rfl (wa T.vH M_NoText_init hr rfl T.gx T.xW.bd .nil qK (z5 (xf rfl (T.wq).choose_spec (v:=.int 2) ⟨_,rfl⟩) z8)))) ql)
   (qz (qf (pv 2)))))),?_⟩
 refine⟨Nat.zero_le _,?_⟩
 intro l H1 s1 hl e1
 refine⟨fun σ' H'=>(∃(vs:List V) (fnd:List (Str × Str)) (v3 v4:Option V),σ'=[some (.ref a),some (.ref b),some (.ref l),v3,v4]∧qp H H'∧H' l=some (.lst vs)∧Paired (vc H') vs fnd∧fnd.length≤12∧(∀mn∈fnd,uT mn)∧xV taken [] (rows.drop 2)=(if fnd=[] then .error 2 else .ok fnd))∨False,?_,?_⟩
 ·walk_at "rd"
  intro l0 H2 s2 hl0 e2
  have e2':H2 l0=some (.lst ((rows.drop 2).map V.str)):=by rw[←ba V.str rows 2];exact e2
  clear e2
  walk_at "rd"
  have hne0:l0≠l:=Ne.symm (qx e1 hl0)
  refine yd (K:=K) (a:=l0) (xs:=(rows.drop 2).map V.str) (fun i σ H'=>∃(vs:List V) (fnd:List (Str × Str)) (v3 v4:Option V),σ=[some (.ref a),some (.ref b),some (.ref l),v3,v4]∧qp H H'∧H' l=some (.lst vs)∧H' l0=some (.lst ((rows.drop 2).map V.str))∧Paired (vc H') vs fnd∧fnd.length≤12∧(∀mn∈fnd,uT mn)∧xV taken [] (rows.drop 2)=xV taken fnd ((rows.drop 2).drop i))
   ⟨[],[],none,none,rfl,s1.trans s2,s2 _ _ e1,e2',.nil,Nat.zero_le _,fun _ z=>(by cases z),by rw[List.drop_zero]⟩ (fun i σ H' _ ⟨_,_,_,_,_,_,_,q,_⟩=>qM.of q) ?_ ?_
  ·rintro i y σ H3 hi ⟨vs,fnd,v3,v4,rfl,s3,e3,e30,hP,hf,jj,hr'⟩
   rw[List.getElem?_map] at hi
   cases q:(rows.drop 2)[i]? with
   | none=>rw[q] at hi;cases hi
   | some x=>
    rw[q] at hi
    cases hi
    have hx:x∈rows:=List.mem_of_mem_drop (List.mem_of_getElem? q)
    have hd:(rows.drop 2).drop i=x :: (rows.drop 2).drop (i + 1):=by
     obtain⟨hi',e⟩:=List.getElem?_eq_some_iff.mp q
     rw[←e];exact List.drop_eq_getElem_cons hi'
    rw[hd] at hr'
    walk_at "rd"
    refine⟨hR.short _ hx,fun H4 s4=>⟨fun h0=>?_,fun p m n h0 hp e4=>?_⟩⟩
    ·walk_at "rd"
     refine .inl ⟨vs,fnd,_,_,rfl,s3.trans s4,s4 _ _ e3,Paired.imp' (fun _ _ z=>z.same s4) hP,hf,jj,?_⟩
     rw[hr',xV,h0]
    ·have hP4:Paired (vc H4) (vs ++ [.ref p]) (fnd ++ [(m,n)]):=Paired.snoc (Paired.imp' (fun _ _ z=>z.same s4) hP) ⟨p,rfl,e4⟩
     have hlen:vs.length=fnd.length:=Paired.length hP
     have eRR:xV taken fnd (x :: List.drop (i + 1) (List.drop 2 rows))=if fnd.length=12∨¬(taken ++ (fnd ++ [(m,n)]).map (·.2)).Nodup then .error (2 + fnd.length) else xV taken (fnd ++ [(m,n)]) (List.drop (i + 1) (List.drop 2 rows)):=by rw[xV,h0]
     rw[eRR] at hr'
     have e34:=s4 _ _ e3
     have raise2:(fnd.length=12∨¬(taken ++ (fnd ++ [(m,n)]).map (·.2)).Nodup)→∀c o H',Ku t (2 + (vs.length:Nat):Int) H c o H'→E c o H':=fun z c o H' q=>kE (2 + fnd.length) (by rw[hr',if_pos z]) c o H' (by rw[←hlen];exact q)
     walk_at "rd"
     refine⟨l,_,rfl,.inl (qM.of e34),rfl,_,rfl,?_⟩
     refine jm (fun h12=>?_) (fun h12=>?_)
     ·walk_at "rd"
      refine⟨l,_,rfl,.inl (qM.of e34),?_⟩
      walk_at "rd"
      exact pV T fun c o H' z=>raise2 (.inl (by
       have:((vs.length:Nat):Int)=12:=by simpa using h12
       omega)) c o H' (z.back (s3.trans s4))
     have hn12:¬fnd.length=12:=fun q=>h12 (by rw[hlen,q];rfl)
     walk_at "rd"
     intro l5 H5 s5 hl5 e5
     refine⟨l,l5,_,_,rfl,rfl,s5 _ _ e34,e5,qv (by simp only[List.length_cons,List.length_nil];omega),?_⟩
     intro l6 H6 s6 hl6 e6
     have hP6:Paired (vc H6) (vs ++ [.ref p]) (fnd ++ [(m,n)]):=Paired.imp' (fun _ _ z=>z.same (s5.trans s6)) hP4
     refine⟨l6,rfl,⟨_,qM.of e6⟩,Qu (ny (qM.of e6)) (YL H6) (VP H6) (fun y v=>∀p m n,y=V.ref p→H6 p=some (.tup [.str m,.str n])→v=V.str n) (qv (by rw[List.length_append];simp only[List.length_cons,List.length_nil];omega)) ?_ ?_ ?_⟩
     ·intro j y ts H' K' hy hts s' k'
      obtain⟨mn,_,p',rfl,ep⟩:=Paired.W7 hP6 (List.mem_of_getElem? hy)
      have et:YL H6 (.ref p')=[some (.str mn.1),some (.str mn.2)]:=by unfold YL;simp only[ep]
      rw[et] at k'
      match ts,hts with
      | [t1,t2],_=>exact⟨p',_,rfl,g9.of (s' _ _ ep),rfl,_,_,rfl,_,_,rfl,rfl,k'⟩
     ·intro j y H' Q' hy s' kk
      obtain⟨mn,_,p',rfl,ep⟩:=Paired.W7 hP6 (List.mem_of_getElem? hy)
      have et:YL H6 (.ref p')=[some (.str mn.1),some (.str mn.2)]:=by unfold YL;simp only[ep]
      rw[et]
      refine⟨_,rfl,kk _ _ (qp.refl _) fun p2 m2 n2 e q=>?_⟩
      cases e
      rw[ep] at q
      cases q
      rfl
     intro D H7 ys s7 hD e7 hPr
     rw[lS hP6 hPr] at e7
     have sA:qp H H7:=(((s3.trans s4).trans s5).trans s6).trans s7
     walk_at "rd"
     refine⟨b,D,_,_,rfl,rfl,sA _ _ hB,e7,qv (by simp only[List.length_map,List.length_append,List.length_cons,List.length_nil];omega),?_⟩
     intro l8 H8 s8 hl8 e8
     refine⟨l8,taken ++ (fnd ++ [(m,n)]).map (·.2),rfl,qM.of (by rw[e8,←List.map_append]),(by simp only[List.length_map,List.length_append,List.length_cons,List.length_nil];omega),fun H9 s9=>?_⟩
     have sB:qp H4 H9:=(((s5.trans s6).trans s7).trans s8).trans s9
     walk_at "rd"
     refine jm (fun h3=>?_) (fun h3=>?_)
     ·walk_at "rd"
      refine⟨l,_,rfl,.inl (qM.of (sB _ _ e34)),?_⟩
      walk_at "rd"
      exact pV T fun c o H' z=>raise2 (.inr (of_decide_eq_false (lH h3))) c o H' (z.back ((s3.trans s4).trans sB))
     walk_at "rd"
     intro H10 k10 e10
     have e9l:=sB _ _ e34
     refine⟨vs ++ [.ref p],fnd ++ [(m,n)],_,_,rfl,k10.put ((s3.trans s4).trans sB) hl,e10,k10.look (sB _ _ (s4 _ _ e30)) (fun q=>?_),Paired.imp' (fun _ _ z=>(z.same sB).keeps k10 e9l) hP4,(by rw[List.length_append];simp only[List.length_cons,List.length_nil];omega),(fun z hz=>(List.mem_append.mp hz).elim (jj z) (fun hz=>by rw[List.mem_singleton.mp hz];exact Xa h0)),?_⟩
     ·exact hne0 q
     ·rw[hr',if_neg (fun q=>q.elim hn12 (fun q=>q (of_decide_eq_true (lG h3))))]
  ·rintro σ H3 ⟨vs,fnd,v3,v4,rfl,s3,e3,e30,hP,hf,jj,hr'⟩
   rw[List.length_map,List.drop_length,xV] at hr'
   exact .inl ⟨vs,fnd,v3,v4,rfl,s3,e3,hP,hf,jj,hr'⟩
 ·rintro σ H3 (⟨vs,fnd,v3,v4,rfl,s3,e3,hP,hf,jj,hr'⟩ | ⟨⟨⟩⟩)
  walk_at "rd"
  intro l4 H4 s4 hl4 e4
  have sh0:SeqAt.shaped (.list (([]:List Str).map PyData.str))=true:=fN (xs:=[]) fun y hy=>by cases hy
  have hP4:Paired (vc H4) vs fnd:=Paired.imp' (fun _ _ z=>z.same s4) hP
  refine⟨_,_,sY.lst (qM.of (s4 _ _ e3)) (eJ hP4),sY.lst (qM.of e4) (pE.strs []),QU jj,sh0,_,rfl,?_⟩
  rw[YJ]
  refine jm (fun h2=>?_) (fun h2=>?_)
  ·walk_at "rd"
   exact pV T fun c o H' z=>kE 2 (by rw[hr',if_pos (of_decide_eq_true h2)]) c o H' (z.back (s3.trans s4))
  walk_at "rd"
  exact kQ fnd l H4 vs (by rw[hr',if_neg (fun q=>h2 (decide_eq_true q))]) (s3.trans s4) hl (s4 _ _ e3) hP4
end
inductive Rw where
 | lt (n v:Str)
 | cl (k:Int) (l u a:Str) (n:Int) (r:Str)
 | pt (n:Str) (rs:List Str) (rows:List Rw)
mutual
noncomputable def pA (t:jf) (ms:List Addr) (H:Hp):Rw→V→Prop
 | .lt n v,x=>∃p,x=.ref p∧p∉ms∧B2 t H p n v
 | .cl k l u a n r,x=>∃p,x=.ref p∧p∉ms∧At t H p k l u a n r
 | .pt n rs rows,x=>∃p dx a b ys,x=.ref p∧p∉ms∧a∉ms∧b∉ms∧H p=some (.ins t.jF dx (Qn n a b))∧H a=some (.lst (rs.map V.str))∧H b=some (.lst ys)∧xh t ms H rows ys
noncomputable def xh (t:jf) (ms:List Addr) (H:Hp):List Rw→List V→Prop
 | [],ys=>ys=[]
 | r :: rs,ys=>∃y ys',ys=y :: ys'∧pA t ms H r y∧xh t ms H rs ys'
end
noncomputable def Fm (ms:List Addr) (H H':Hp):Prop:=∀b o,b∉ms→H b=some o→H' b=some o
theorem Fm.trans {ms ms':List Addr} {H H1 H2:Hp} (a:Fm ms H H1) (b:Fm ms' H1 H2) (hm:∀b∈ms',b∈ms∨H b=none):Fm ms H H2:=fun c o hc e=>b c o (fun z=>(hm c z).elim hc (fun q=>by rw[e] at q;cases q)) (a c o hc e)
theorem Fm.of {ms:List Addr} {H H1:Hp} (s:qp H H1):Fm ms H H1:=fun c o _ e=>s _ _ e
theorem Fm.Zz {ms:List Addr} {H0 H H1:Hp} (a:Fm ms H H1) (s:qp H0 H) (h:∀b∈ms,H0 b=none):qp H0 H1:=fun c o e=>a c o (fun z=>by rw[h c z] at e;cases e) (s c o e)
theorem cJ {ms ms':List Addr} {H:Hp} {b:Addr} {o:HO} (hm:∀b∈ms',b∈ms∨H b=none) (h:b∉ms) (e:H b=some o):b∉ms':=fun z=>(hm b z).elim h (fun q=>by rw[e] at q;cases q)
mutual
theorem pA.move {t:jf} {ms ms':List Addr} {H H':Hp} (hk:Fm ms H H') (hm:∀b∈ms',b∈ms∨H b=none):∀{r:Rw} {x:V},pA t ms H r x→pA t ms' H' r x
 | .lt n v,x,h=>by
  unfold pA at h ⊢
  obtain⟨p,e,hp,dx,q⟩:=h
  exact⟨p,e,cJ hm hp q,dx,hk _ _ hp q⟩
 | .cl k l u a n r,x,h=>by
  unfold pA at h ⊢
  obtain⟨p,e,hp,dx,q⟩:=h
  exact⟨p,e,cJ hm hp q,dx,hk _ _ hp q⟩
 | .pt n rs rows,x,h=>by
  unfold pA at h ⊢
  obtain⟨p,dx,a,b,ys,e,hp,ha,hb,e1,e2,e3,q⟩:=h
  exact⟨p,dx,a,b,ys,e,cJ hm hp e1,cJ hm ha e2,cJ hm hb e3,hk _ _ hp e1,hk _ _ ha e2,hk _ _ hb e3,xh.move hk hm q⟩
theorem xh.move {t:jf} {ms ms':List Addr} {H H':Hp} (hk:Fm ms H H') (hm:∀b∈ms',b∈ms∨H b=none):∀{rs:List Rw} {ys:List V},xh t ms H rs ys→xh t ms' H' rs ys
 | [],ys,h=>by unfold xh at h ⊢;exact h
 | r :: rs,ys,h=>by
  unfold xh at h ⊢
  obtain⟨y,ys',e,h1,h2⟩:=h
  exact⟨y,ys',e,pA.move hk hm h1,xh.move hk hm h2⟩
end
theorem xh.snoc {t:jf} {ms:List Addr} {H:Hp} {r:Rw} {y:V} (h:pA t ms H r y):∀{rs:List Rw} {ys:List V},xh t ms H rs ys→xh t ms H (rs ++ [r]) (ys ++ [y])
 | [],ys,q=>by
  unfold xh at q
  subst q
  show xh t ms H [r] [y]
  unfold xh
  exact⟨y,[],rfl,h,by unfold xh;rfl⟩
 | r' :: rs,ys,q=>by
  unfold xh at q
  obtain⟨y',ys',rfl,h1,h2⟩:=q
  show xh t ms H (r' :: (rs ++ [r])) (y' :: (ys' ++ [y]))
  unfold xh
  exact⟨y',_,rfl,h1,xh.snoc h h2⟩
theorem xh.len {t:jf} {ms:List Addr} {H:Hp}:∀{rs:List Rw} {ys:List V},xh t ms H rs ys→ys.length=rs.length
 | [],ys,q=>by unfold xh at q;rw[q];rfl
 | r' :: rs,ys,q=>by
  unfold xh at q
  obtain⟨y',ys',rfl,h1,h2⟩:=q
  rw[List.length_cons,List.length_cons,xh.len h2]
noncomputable abbrev Fr:=Str × List Str × List Rw
noncomputable def pI (t:jf) (ms:List Addr) (H:Hp) (B:Nat):List Addr→List Addr→List Fr→Prop
 | [],[],[]=>True
 | p :: ps,q :: qs,(n,rs,rows) :: fr=>(∃dx a b,p∉ms∧a∉ms∧H p=some (.ins t.jF dx (Qn n a b))∧H a=some (.lst (rs.map V.str)))∧(∃ys,H q=some (.lst ys)∧xh t ms H rows ys∧rows.length≤B)∧pI t ms H B ps qs fr
 | _,_,_=>False
noncomputable def av (a b c:Addr):List (Str × V):=[("heads",.ref a),("bodies",.ref b),("labels",.ref c)]
noncomputable def Kl (ls:List Str):List (Key × V):=ls.map fun l=>(.inr l,.bl true)
structure nK (t:jf) (H:Hp) (me dx hd bd lb:Addr) (hps bqs:List Addr) (fr:List Fr) (ls:List Str) (B:Nat):Prop where
 nd:(me :: hd :: bd :: lb :: bqs).Nodup
 se:H me=some (.ins t.qC dx (av hd bd lb))
 hh:H hd=some (.lst (hps.map V.ref).reverse)
 hb:H bd=some (.lst (bqs.map V.ref).reverse)
 hl:H lb=some (.dK (Kl ls))
 fa:pI t (me :: hd :: bd :: lb :: bqs) H B hps bqs fr
 nN:ls.length≤B
noncomputable def yw (t:jf) (H:Hp) (me:Addr) (fr:List Fr) (ls:List Str) (B:Nat) (ms:List Addr):Prop:=∃dx hd bd lb hps bqs,ms=me :: hd :: bd :: lb :: bqs∧nK t H me dx hd bd lb hps bqs fr ls B
theorem pI.len {t:jf} {ms:List Addr} {H:Hp} {B:Nat}:∀{ps qs:List Addr} {fr:List Fr},pI t ms H B ps qs fr→ps.length=fr.length∧qs.length=fr.length
 | [],[],[],_=>⟨rfl,rfl⟩
 | p :: ps,q :: qs,(n,rs,rows) :: fr,h=>by
  have:=pI.len h.2.2
  simp [this.1,this.2]
theorem pI.move {t:jf} {ms ms':List Addr} {H H':Hp} {B B':Nat} (hk:Fm ms H H') (hm:∀b∈ms',b∈ms∨H b=none) (hB:B≤B'):∀{ps qs:List Addr} {fr:List Fr},pI t ms H B ps qs fr→(∀q∈qs,∀o,H q=some o→H' q=some o)→pI t ms' H' B' ps qs fr
 | [],[],[],_,_=>True.intro
 | p :: ps,q :: qs,(n,rs,rows) :: fr,h,hq=>by
  obtain⟨⟨dx,a,b,h1,h2,h3,h4⟩,⟨ys,h5,h6,h7⟩,h8⟩:=h
  exact⟨⟨dx,a,b,cJ hm h1 h3,cJ hm h2 h4,hk _ _ h1 h3,hk _ _ h2 h4⟩,⟨ys,hq q List.mem_cons_self _ h5,h6.move hk hm,by omega⟩,pI.move hk hm hB h8 fun c hc=>hq c (List.mem_cons_of_mem _ hc)⟩
theorem pI.Q6 {t:jf} {ms:List Addr} {H:Hp} {B:Nat}:∀{ps qs:List Addr} {fr:List Fr},pI t ms H B ps qs fr→∀q∈qs,∃o,H q=some o
 | [],[],[],_,q,hq=>by cases hq
 | p :: ps,q :: qs,(n,rs,rows) :: fr,h,c,hc=>by
  obtain⟨_,⟨ys,h5,_,_⟩,h8⟩:=h
  (rcases List.mem_cons.mp hc with rfl | hc)
  ·exact⟨_,h5⟩
  ·exact pI.Q6 h8 c hc
theorem nK.Q6 {t:jf} {H:Hp} {me dx hd bd lb:Addr} {hps bqs:List Addr} {fr:List Fr} {ls:List Str} {B:Nat} (h:nK t H me dx hd bd lb hps bqs fr ls B):∀b∈me :: hd :: bd :: lb :: bqs,∃o,H b=some o:=by
 intro b hb
 simp only[List.mem_cons] at hb
 rcases hb with rfl | rfl | rfl | rfl | hb
 ·exact⟨_,h.se⟩
 ·exact⟨_,h.hh⟩
 ·exact⟨_,h.hb⟩
 ·exact⟨_,h.hl⟩
 ·exact h.fa.Q6 b hb
theorem pI.inv {t:jf} {ms:List Addr} {H:Hp} {B:Nat} {n:Str} {rs:List Str} {rows:List Rw} {fr:List Fr}:∀{hps bqs:List Addr},pI t ms H B hps bqs ((n,rs,rows) :: fr)→∃p ps q qs,hps=p :: ps∧bqs=q :: qs∧(∃dx a b,p∉ms∧a∉ms∧H p=some (.ins t.jF dx (Qn n a b))∧H a=some (.lst (rs.map V.str)))∧(∃ys,H q=some (.lst ys)∧xh t ms H rows ys∧rows.length≤B)∧pI t ms H B ps qs fr
 | [],_,h=>by simp [pI] at h
 | _ :: _,[],h=>by simp [pI] at h
 | p :: ps,q :: qs,h=>⟨p,ps,q,qs,rfl,rfl,h.1,h.2.1,h.2.2⟩
section
variable {P:Program} {w:World} {K:PySem.W.Frag} {mg:Str→Option Value} {base:Heap} {t:jf}
end
noncomputable def oA (t:jf):Sp:=fun vs H Q _=>∃(self:Addr) (fr:List Fr) (ls:List Str) (B:Nat) (ms:List Addr),vs=[.ref self]∧yw t H self fr ls B ms∧Q (.int (((fr.length:Nat):Int) - 1)) H
noncomputable def Z8 (t:jf):Sp:=fun vs H Q _=>∃(self:Addr) (y:V) (n:Str) (rs:List Str) (rows:List Rw) (fr:List Fr) (ls:List Str) (B:Nat) (ms:List Addr) (r:Rw),vs=[.ref self,y]∧yw t H self ((n,rs,rows) :: fr) ls B ms∧pA t ms H r y∧B < 1000∧∀H',Fm ms H H'→yw t H' self ((n,rs,rows ++ [r]) :: fr) ls (B + 1) ms→Q .non H'
noncomputable def sv (t:jf):Sp:=fun vs H Q _=>∃(self:Addr) (n:Str) (rs:List Str) (rows:List Rw) (fr:List Fr) (ls:List Str) (B:Nat) (ms:List Addr),vs=[.ref self]∧yw t H self ((n,rs,rows) :: fr) ls B ms∧B≤1000∧∀p H' ms',Fm ms H H'→(∀b∈ms',b∈ms)→yw t H' self fr ls B ms'→pA t ms' H' (.pt n rs rows) (.ref p)→Q (.ref p) H'
section
variable {P:Program} {w:World} {K:PySem.W.Frag} {mg:Str→Option Value} {base:Heap} {t:jf}
theorem b1:¬(("bodies" : Str) = "heads"):=by decide +kernel
theorem b2:¬(("labels" : Str) = "heads"):=by decide +kernel
theorem b3:¬(("labels" : Str) = "bodies"):=by decide +kernel
section
variable {H:Hp} {self dx hd bd lb:Addr} {hps bqs:List Addr} {fr:List Fr} {ls:List Str} {B:Nat}
theorem nK.f1 (h:nK t H self dx hd bd lb hps bqs fr ls B) (T:Txt K mg t):Qv K H (.ref self) "heads" (.ref hd):=⟨self,_,dx,_,rfl,h.se,T.je,T.yx,jg⟩
theorem nK.f2 (h:nK t H self dx hd bd lb hps bqs fr ls B) (T:Txt K mg t):Qv K H (.ref self) "bodies" (.ref bd):=⟨self,_,dx,_,rfl,h.se,T.je,T.kJ,(jx b1).trans jg⟩
theorem nK.f3 (h:nK t H self dx hd bd lb hps bqs fr ls B) (T:Txt K mg t):Qv K H (.ref self) "labels" (.ref lb):=⟨self,_,dx,_,rfl,h.se,T.je,T.gy,(jx b2).trans ((jx b3).trans jg)⟩
end
theorem cF:qm ["self"] ["self"] (z6 qE):=⟨rfl,rfl,rfl,by decide +kernel,rfl,by decide +kernel,by decide +kernel⟩
set_option maxHeartbeats 400000 in
theorem wc (T:Txt K mg t):qr P w K mg base jy 1 t.kG t.wF ["self"] (oA t):=by
 refine T.kl.fn.ok cF (fun vs H Q E h=>(by obtain⟨_,_,_,_,_,rfl,_⟩:=h;rfl)) (fun cdv A outer s H vs Q E hr h=>?_)
 obtain⟨self,fr,ls,B,ms,rfl,⟨dx,hd,bd,lb,hps,bqs,rfl,h⟩,k⟩:=h
 refine⟨_,(qz (qf (qg oX (qG (qN (K:=K) rfl) rfl T.kg PySem.boot_len (z5 (jh (K:=K) rfl (pv 0) rfl) z8)) z9))),?_⟩
 refine⟨_,rfl,_,h.f1 T,hd,_,rfl,.inl (qM.of h.hh),?_⟩
 refine⟨_,_,rfl,rfl,?_⟩
 have:(hps.map V.ref).reverse.length=fr.length:=by rw[List.length_reverse,List.length_map];exact h.fa.len.1
 rw[this]
 exact k
theorem lN:qm ["self","row"] ["self","row"] (z6 jX):=⟨rfl,rfl,rfl,by decide +kernel,rfl,by decide +kernel,by decide +kernel⟩
set_option maxHeartbeats 400000 in
theorem gb (T:Txt K mg t):qr P w K mg base jy 1 t.w4 t.bq ["self","row"] (Z8 t):=by
 refine T.yy.fn.ok lN (fun vs H Q E h=>(by obtain⟨_,_,_,_,_,_,_,_,_,_,rfl,_⟩:=h;rfl)) (fun cdv A outer s H vs Q E hr h=>?_)
 obtain⟨self,y,n,rs,rows,fr,ls,B,ms,r,rfl,⟨dx,hd,bd,lb,hps,bqs,rfl,h⟩,hr',hB,k⟩:=h
 refine⟨_,(qz (jU (vb PySem.F.plainAttrs_list PySem.F.slot_list_append PySem.F.type_list_append kj (qe (qw (K:=K) rfl) (jh (K:=K) rfl (pv 0) rfl) (GD YT z9) (fun _ _=>rfl)) (z5 (pv 1) z8)))),?_⟩
 obtain⟨nd,se,hh,hb,hl,fa,nN⟩:=id h
 obtain⟨p,ps,q,qs,rfl,rfl,f1,⟨ys,e1,e2,e3⟩,f3⟩:=fa.inv
 refine⟨_,rfl,_,h.f2 T,?_⟩
 refine⟨_,rfl,bd,_,_,.ref q,rfl,rfl,qM.of hb,(by rw[List.map_cons,List.reverse_cons];exact Jy _ _),?_⟩
 have hq:q∈self :: hd :: bd :: lb :: q :: qs:=by simp
 refine⟨.inl ⟨rfl,_,qM.of e1⟩,_,rfl,q,ys,_,rfl,rfl,e1,qv (by have:=e2.len;omega),?_⟩
 intro H' k' e'
 have fm:Fm (self :: hd :: bd :: lb :: q :: qs) H H':=fun b o hb e=>by rw[k' b (fun z=>hb (by rw[z];exact hq))];exact e
 have ne:∀b,b∈self :: hd :: bd :: lb :: qs→b≠q:=fun b hx z=>by
  subst z
  simp only[List.nodup_cons,List.mem_cons,not_or] at nd hx
  rcases hx with hx | hx | hx | hx | hx
  ·exact nd.1.2.2.2.1 hx.symm
  ·exact nd.2.1.2.2.1 hx.symm
  ·exact nd.2.2.1.2.1 hx.symm
  ·exact nd.2.2.2.1.1 hx.symm
  ·exact nd.2.2.2.2.1 hx
 have hm:∀b∈self :: hd :: bd :: lb :: q :: qs,b∈self :: hd :: bd :: lb :: q :: qs∨H b=none:=fun b hb=>.inl hb
 refine k H' fm ⟨dx,hd,bd,lb,p :: ps,q :: qs,rfl,nd,?_,?_,?_,?_,⟨?_,⟨ys ++ [y],e',xh.snoc (hr'.move fm hm) (e2.move fm hm),?_⟩,f3.move fm hm (Nat.le_succ _) fun c hc o e=>by rw[k' c (ne c (by simp [hc]))];exact e⟩,by omega⟩
 ·rw[k' self (ne self (by simp))];exact se
 ·rw[k' hd (ne hd (by simp))];exact hh
 ·rw[k' bd (ne bd (by simp))];exact hb
 ·rw[k' lb (ne lb (by simp))];exact hl
 ·obtain⟨dx',a,b,g1,g2,g3,g4⟩:=f1
  exact⟨dx',a,b,g1,g2,fm _ _ g1 g3,fm _ _ g2 g4⟩
 ·rw[List.length_append];simp only[List.length_cons,List.length_nil];omega
theorem GW {a b c d q:Addr} {qs:List Addr} (h:(a :: b :: c :: d :: q :: qs).Nodup):(a :: b :: c :: d :: qs).Nodup∧∀x∈a :: b :: c :: d :: qs,x≠q:=by
 have h':=h
 simp only[List.nodup_cons,List.mem_cons,not_or] at h ⊢
 refine⟨⟨⟨h.1.1,h.1.2.1,h.1.2.2.1,h.1.2.2.2.2⟩,⟨h.2.1.1,h.2.1.2.1,h.2.1.2.2.2⟩,⟨h.2.2.1.1,h.2.2.1.2.2⟩,h.2.2.2.1.2,h.2.2.2.2.2⟩,fun x hx z=>?_⟩
 subst z
 rcases hx with hx | hx | hx | hx | hx
 ·exact h.1.2.2.2.1 hx.symm
 ·exact h.2.1.2.2.1 hx.symm
 ·exact h.2.2.1.2.1 hx.symm
 ·exact h.2.2.2.1.1 hx.symm
 ·exact h.2.2.2.2.1 hx
theorem fL:qm ["self","head"] ["self"] (z6 jJ):=⟨rfl,rfl,rfl,by decide +kernel,rfl,by decide +kernel,by decide +kernel⟩
set_option maxHeartbeats 400000 in
theorem fV (T:Txt K mg t):qr P w K mg base jy 3 t.wA t.bz ["self"] (sv t):=by
 have M_Part_init:qr P w K mg base jy 1 t.ko t.vK ["self","name","rooms","rows"] (VZ K t):=(pJ T).mono (by decide)
 refine T.gK.fn.ok fL (fun vs H Q E h=>(by obtain⟨_,_,_,_,_,_,_,_,rfl,_⟩:=h;rfl)) (fun cdv A outer s H vs Q E hr h=>?_)
 obtain⟨self,n,rs,rows,fr,ls,B,ms,rfl,⟨dx,hd,bd,lb,hps,bqs,rfl,h⟩,hB,k⟩:=h
 refine⟨_,(z7 (qu (i:=1) fL.nd rfl (Or.inl rfl) (Xd PySem.F.plainAttrs_list PySem.F.slot_list_pop PySem.F.type_list_pop J8 (jh (K:=K) rfl (pv 0) rfl)))
   (qz (qf (kU T.cq M_Part_init hr rfl T.lg T.yU.bd .nil qK (z5 (jh (K:=K) rfl (pv 1) rfl) (z5 (jh (K:=K) rfl (pv 1) rfl) (z5 (Xd PySem.F.plainAttrs_list PySem.F.slot_list_pop PySem.F.type_list_pop J8 (jh (K:=K) rfl (pv 0) rfl)) z8))))))),?_⟩
 obtain⟨nd,se,hh,hb,hl,fa,nN⟩:=id h
 obtain⟨p,ps,q,qs,rfl,rfl,⟨dx',a,b,g1,g2,g3,g4⟩,⟨ys,e1,e2,e3⟩,f3⟩:=fa.inv
 have Q6:=h.Q6
 refine⟨_,rfl,_,h.f1 T,?_⟩
 refine⟨.inl ⟨rfl,_,qM.of hh⟩,hd,_,.ref p,rfl,rfl,hh,(by rw[List.map_cons,List.reverse_cons];simp),?_⟩
 intro H1 k1 e1'
 rw[List.map_cons,List.reverse_cons,List.dropLast_concat] at e1'
 obtain⟨nd2,nq⟩:=GW nd
 have nab:hd≠bd:=by simp only[List.nodup_cons,List.mem_cons,not_or] at nd;exact nd.2.1.1
 have nsh:self≠hd:=by simp only[List.nodup_cons,List.mem_cons,not_or] at nd;exact nd.1.1
 have nsb:self≠bd:=by simp only[List.nodup_cons,List.mem_cons,not_or] at nd;exact nd.1.2.1
 have nlh:lb≠hd:=by simp only[List.nodup_cons,List.mem_cons,not_or] at nd;exact fun z=>nd.2.1.2.1 z.symm
 have nlb:lb≠bd:=by simp only[List.nodup_cons,List.mem_cons,not_or] at nd;exact fun z=>nd.2.2.1.1 z.symm
 have ph:p≠hd:=fun z=>g1 (by rw[z];simp)
 have ah:a≠hd:=fun z=>g2 (by rw[z];simp)
 have p1:H1 p=some (.ins t.jF dx' (Qn n a b)):=by rw[k1 p ph];exact g3
 have a1:H1 a=some (.lst (rs.map V.str)):=by rw[k1 a ah];exact g4
 have s1:H1 self=some (.ins t.qC dx (av hd bd lb)):=by rw[k1 self nsh];exact se
 have b1':H1 bd=some (.lst ((q :: qs).map V.ref).reverse):=by rw[k1 bd (Ne.symm nab)];exact hb
 refine⟨_,rfl,_,⟨p,_,dx',_,rfl,p1,T.bN,T.yF,jg⟩,?_⟩
 refine⟨_,rfl,_,⟨p,_,dx',_,rfl,p1,T.bN,T.bb,(jx (fun z=>m2 z.symm)).trans jg⟩,?_⟩
 refine⟨_,rfl,_,⟨self,_,dx,_,rfl,s1,T.je,T.kJ,(jx b1).trans jg⟩,?_⟩
 refine⟨.inl ⟨rfl,_,qM.of b1'⟩,bd,_,.ref q,rfl,rfl,b1',(by rw[List.map_cons,List.reverse_cons];simp),?_⟩
 intro H2 k2 e2'
 rw[List.map_cons,List.reverse_cons,List.dropLast_concat] at e2'
 intro x dxx hx hdx hne
 have keep2:∀c o,c≠hd→c≠bd→H c=some o→H2 c=some o:=fun c o h1 h2 e=>by rw[k2 c h2,k1 c h1];exact e
 have keepm:∀c o,H2 c=some o→(upd (upd H2 dxx (HO.own x)) x (HO.ins t.jF dxx [])) c=some o:=wj hx hdx
 have ab:a≠bd:=fun z=>g2 (by rw[z];simp)
 have qh:q≠hd:=Ne.symm (nq hd (by simp))
 have qb':q≠bd:=Ne.symm (nq bd (by simp))
 refine⟨x,dxx,a,q,n,rs,ys,rfl,qy,keepm _ _ (keep2 _ _ ah ab g4),keepm _ _ (keep2 _ _ qh qb' e1),fun H3 o3 h3=>⟨rfl,?_⟩⟩
 obtain⟨dx3,qa,qb,r1,r2,r3,z1,z2⟩:=h3
 have keep3:∀c o,H2 c=some o→H3 c=some o:=fun c o e=>o3 c o (qx e hx) (keepm c o e)
 have ke:∀c o,c≠hd→c≠bd→H c=some o→H3 c=some o:=fun c o h1 h2 e=>keep3 c o (keep2 c o h1 h2 e)
 have h2h:H2 hd=some (.lst (ps.map V.ref).reverse):=by rw[k2 hd nab];exact e1'
 have sub:∀c∈self :: hd :: bd :: lb :: qs,c∈self :: hd :: bd :: lb :: q :: qs:=fun c hc=>by
  simp only[List.mem_cons] at hc ⊢
  rcases hc with z | z | z | z | z<;>simp [z]
 have fm:Fm (self :: hd :: bd :: lb :: q :: qs) H H3:=fun c o hc e=>ke c o (fun z=>hc (by rw[z];simp)) (fun z=>hc (by rw[z];simp)) e
 have dom2:∀c∈self :: hd :: bd :: lb :: qs,∃o,H2 c=some o:=fun c hc=>by
  by_cases q1:c=hd
  ·subst q1;exact⟨_,h2h⟩
  ·by_cases q2:c=bd
   ·subst q2;exact⟨_,e2'⟩
   ·obtain⟨o,e⟩:=Q6 c (sub c hc)
    exact⟨o,keep2 c o q1 q2 e⟩
 have ni:∀y,(upd (upd H2 dxx (HO.own x)) x (HO.ins t.jF dxx [])) y=none→y∉self :: hd :: bd :: lb :: qs:=fun y e hy=>by
  obtain⟨o,e'⟩:=dom2 y hy
  rw[keepm y o e'] at e;cases e
 have hm:∀c∈self :: hd :: bd :: lb :: qs,c∈self :: hd :: bd :: lb :: q :: qs∨H c=none:=fun c hc=>.inl (sub c hc)
 have nqs:∀c∈qs,c≠hd∧c≠bd:=fun c hc=>by
  simp only[List.nodup_cons,List.mem_cons,not_or] at nd2
  exact⟨fun z=>nd2.2.1.2.2 (by rw[←z];exact hc),fun z=>nd2.2.2.1.2 (by rw[←z];exact hc)⟩
 refine k x H3 (self :: hd :: bd :: lb :: qs) fm sub ⟨dx,hd,bd,lb,ps,qs,rfl,nd2,ke _ _ nsh nsb se,keep3 _ _ h2h,keep3 _ _ e2',ke _ _ nlh nlb hl,f3.move fm hm (Nat.le_refl _) (fun c hc o e=>ke c o (nqs c hc).1 (nqs c hc).2 e),nN⟩ ?_
 unfold pA
 refine⟨x,dx3,qa,qb,ys,rfl,fun hxm=>?_,ni qa z1,ni qb z2,r1,r2,r3,e2.move fm hm⟩
 obtain⟨o,e'⟩:=dom2 x hxm
 rw[hx] at e';cases e'
end
noncomputable def XR (t:jf):Sp:=fun vs H Q _=>∃(self:Addr) (fr:List Fr) (ls:List Str) (B:Nat) (ms:List Addr),vs=[.ref self]∧yw t H self fr ls B ms∧B < 1000∧fr≠[]∧(fr.length=1→Q (.bl false) H)∧
 ∀n rs rows n2 rs2 rows2 fr',fr=(n,rs,rows) :: (n2,rs2,rows2) :: fr'→∀H' ms',Fm ms H H'→(∀b∈ms',b∈ms)→yw t H' self ((n2,rs2,rows2 ++ [.pt n rs rows]) :: fr') ls (B + 1) ms'→Q (.bl true) H'
noncomputable def XS (t:jf):Sp:=fun vs H Q _=>∃(self p dx a b:Addr) (n:Str) (rs:List Str) (fr:List Fr) (ls:List Str) (B:Nat) (ms:List Addr),vs=[.ref self,.ref p]∧yw t H self fr ls B ms∧B < 1000∧fr.length≤7∧p∉ms∧a∉ms∧H p=some (.ins t.jF dx (Qn n a b))∧H a=some (.lst (rs.map V.str))∧(fr.length=7∨n∈ls→Q (.bl false) H)∧
 (¬(fr.length=7∨n∈ls)→∀H' ms',Fm ms H H'→(∀b∈ms',b∈ms∨H b=none)→yw t H' self ((n,rs,[]) :: fr) (ls ++ [n]) (B + 1) ms'→Q (.bl true) H')
noncomputable def XC (t:jf):Sp:=fun vs H Q _=>∃(self p:Addr) (k:Int) (l u a:Str) (n:Int) (r:Str) (pn:Str) (rs:List Str) (rows:List Rw) (fr:List Fr) (ls:List Str) (B:Nat) (ms:List Addr),vs=[.ref self,.ref p]∧yw t H self ((pn,rs,rows) :: fr) ls B ms∧B < 998∧p∉ms∧At t H p k l u a n r∧(l∈ls→Q (.bl false) H)∧
 (l∉ls→∀H',Fm ms H H'→yw t H' self ((pn,rs,rows ++ [.cl k l u a n r]) :: fr) (ls ++ [l]) (B + 2) ms→Q (.bl true) H')
theorem du {a b c:Addr} {m:Str} (h1:¬m = "heads") (h2:¬m = "bodies") (h3:¬m = "labels"):(av a b c).lookup m=none:=(jx h1).trans ((jx h2).trans ((jx h3).trans rfl))
theorem oh {a b c:Addr}:(av a b c).lookup ("many_open" : Str)=none:=du (by decide +kernel) (by decide +kernel) (by decide +kernel)
theorem aK {a b c:Addr}:(av a b c).lookup ("put_in" : Str)=none:=du (by decide +kernel) (by decide +kernel) (by decide +kernel)
theorem tS {a b c:Addr}:(av a b c).lookup ("closed" : Str)=none:=du (by decide +kernel) (by decide +kernel) (by decide +kernel)
theorem GG {a b c:Addr}:(av a b c).lookup ("takes_done" : Str)=none:=du (by decide +kernel) (by decide +kernel) (by decide +kernel)
theorem GH {a b c:Addr}:(av a b c).lookup ("takes_head" : Str)=none:=du (by decide +kernel) (by decide +kernel) (by decide +kernel)
theorem GY {a b c:Addr}:(av a b c).lookup ("takes_clause" : Str)=none:=du (by decide +kernel) (by decide +kernel) (by decide +kernel)
theorem GB {a b c:Addr}:(av a b c).lookup ("takes" : Str)=none:=du (by decide +kernel) (by decide +kernel) (by decide +kernel)
theorem ar {ls:List Str} {n:Str}:(vB (Kl ls) (.inr n)).isSome=decide (n∈ls):=by
 rw[←bM]
 unfold Kl
 rw[List.any_map]
 rw[Bool.eq_iff_iff]
 simp
theorem ZG {ls:List Str} {n:Str} (h:n∉ls):putK (Kl ls) (.inr n) (.bl true)=Kl (ls ++ [n]):=by
 rw[Xo]
 ·unfold Kl;rw[List.map_append];rfl
 ·have:=@ar ls n
  rw[decide_eq_false h] at this
  cases q:vB (Kl ls) (.inr n) with
  | none=>rfl
  | some v=>rw[q] at this;cases this
section
variable {P:Program} {w:World} {K:PySem.W.Frag} {mg:Str→Option Value} {base:Heap} {t:jf}
theorem dY:qm ["self"] ["self"] (z6 qS):=⟨rfl,rfl,rfl,by decide +kernel,rfl,by decide +kernel,by decide +kernel⟩
set_option maxHeartbeats 400000 in
theorem dQ (T:Txt K mg t):qr P w K mg base jy 5 t.kh t.vC ["self"] (XR t):=by
 refine T.yo.fn.ok dY (fun vs H Q E h=>(by obtain⟨_,_,_,_,_,rfl,_⟩:=h;rfl)) (fun cdv A outer s H vs Q E hr h=>?_)
 obtain⟨self,fr,ls,B,ms,rfl,hb,hB,hne,k0,k1⟩:=h
 refine⟨_,(z7 (qF (qt xj (wN hr (pv 0)) z9 (qV _))
    (qz (qf yr)) ql)
   (z7 (jU (vp hr (pv 0) (z5 (wN hr (pv 0)) z8)))
   (qz (qf yr)))),?_⟩
 have M1:ja P w K mg base jy 4 t.qC "many_open" (oA t):=.mk' T.kc (wc T) T.kl.bd (by decide)
 have M2:ja P w K mg base jy 4 t.qC "put_in" (Z8 t):=.mk' T.wx (gb T) T.yy.bd (by decide)
 have M3:ja P w K mg base jy 4 t.qC "closed" (sv t):=.mk' T.gk (fV T) T.gK.bd (by decide)
 obtain⟨dx,hd,bd,lb,hps,bqs,e,h⟩:=id hb
 refine⟨_,rfl,self,_,dx,_,rfl,h.se,T.je,oh,_,M1,?_⟩
 refine⟨self,fr,ls,B,ms,rfl,hb,?_⟩
 walk_at "rd"
 refine jm (fun h1=>?_) (fun h1=>?_)
 ·walk_at "rd"
  exact k0 (by
   have:((fr.length:Nat):Int) - 1=0:=by simpa using h1
   omega)
 match fr,hne with
 | [(n,rs,rows)],_=>exact absurd rfl h1
 | (n,rs,rows) :: (n2,rs2,rows2) :: fr',_=>
  walk_at "rd"
  refine⟨self,_,dx,_,rfl,h.se,T.je,aK,_,M2,?_⟩
  refine⟨_,rfl,self,_,dx,_,rfl,h.se,T.je,tS,_,M3,?_⟩
  refine⟨self,n,rs,rows,_,ls,B,ms,rfl,hb,by omega,fun p H1 ms1 fm1 sub1 hb1 hr1=>?_⟩
  refine⟨self,.ref p,n2,rs2,rows2,fr',ls,B,ms1,.pt n rs rows,rfl,hb1,hr1,hB,fun H2 fm2 hb2=>?_⟩
  exact k1 _ _ _ _ _ _ _ rfl H2 ms1 (fm1.trans fm2 (fun b hb=>.inl (sub1 b hb))) sub1 hb2
theorem dG:qm ["self","head"] ["self","head"] (z6 qT):=⟨rfl,rfl,rfl,by decide +kernel,rfl,by decide +kernel,by decide +kernel⟩
set_option maxHeartbeats 400000 in
theorem dJ (T:Txt K mg t):qr P w K mg base jy 3 t.kf t.vU ["self","head"] (XS t):=by
 refine T.yi.fn.ok dG (fun vs H Q E h=>(by obtain⟨_,_,_,_,_,_,_,_,_,_,_,rfl,_⟩:=h;rfl)) (fun cdv A outer s H vs Q E hr h=>?_)
 obtain⟨self,p,dxp,a,b,n,rs,fr,ls,B,ms,rfl,hb,hB,h7,hp,ha,ep,ea,k0,k1⟩:=h
 refine⟨_,(z7 (qF (PW.pt (fD (qt xj (wN hr (pv 0)) (xf rfl (T.uY).choose_spec (v:=.int 6) ⟨_,rfl⟩) (qV _)) (bf (lU (Xm (xE hr) (jh (K:=K) rfl (pv 1) rfl) (jh (K:=K) rfl (pv 0) rfl))))))
    (qz (qf yr)) ql)
   (z7 (gc yr (gd (jh (K:=K) rfl (pv 0) rfl) (jh (K:=K) rfl (pv 1) rfl) (kC (xE hr))))
   (z7 (jU (vb PySem.F.plainAttrs_list PySem.F.slot_list_append PySem.F.type_list_append kj (jh (K:=K) rfl (pv 0) rfl) (z5 (pv 1) z8)))
   (z7 (jU (vb PySem.F.plainAttrs_list PySem.F.slot_list_append PySem.F.type_list_append kj (jh (K:=K) rfl (pv 0) rfl) (z5 (jb z8) z8)))
   (qz (qf yr)))))),?_⟩
 have M1:ja P w K mg base jy 2 t.qC "many_open" (oA t):=.mk' T.kc (wc T) T.kl.bd (by decide)
 obtain⟨dx,hd,bd,lb,hps,bqs,e,h⟩:=id hb
 have fnm:Qv K H (.ref p) "name" (.str n):=⟨p,_,dxp,_,rfl,ep,T.bN,T.yF,jg⟩
 refine⟨_,rfl,self,_,dx,_,rfl,h.se,T.je,oh,_,M1,?_⟩
 refine⟨self,fr,ls,B,ms,rfl,hb,?_⟩
 walk_at "rd"
 refine jm (fun h1=>?_) (fun h1=>?_)
 ·walk_at "rd"
  exact k0 (.inl (by
   have:((fr.length:Nat):Int) - 1=6:=by simpa using h1
   omega))
 have n7:¬fr.length=7:=fun z=>h1 (by rw[z];rfl)
 refine⟨_,rfl,_,fnm,_,rfl,_,h.f3 T,lb,_,rfl,vq.k (k:=.inr n) h.hl,?_⟩
 rw[ar]
 subst e
 obtain⟨nd,se,hh,hbb,hl,fa,nN⟩:=id h
 have ndx:=nd
 simp only[List.nodup_cons,List.mem_cons,not_or] at ndx
 obtain⟨⟨nsh,nsb,nsl,_⟩,⟨nhb,nhl,_⟩,⟨nbl,_⟩,_,_⟩:=ndx
 refine⟨_,rfl,?_⟩
 refine jm (fun h2=>?_) (fun h2=>?_)
 ·exact k0 (.inr (of_decide_eq_true h2))
 have hnl:n∉ls:=fun z=>h2 (decide_eq_true z)
 refine⟨_,rfl,_,h.f3 T,_,rfl,_,fnm,lb,_,.inr n,rfl,rfl,hl,qv (by unfold Kl;rw[List.length_map];omega),?_⟩
 intro H1 k1' e1
 rw[ZG hnl] at e1
 have s1:H1 self=some (.ins t.qC dx (av hd bd lb)):=by rw[k1' self nsl];exact se
 have h1':H1 hd=some (.lst (hps.map V.ref).reverse):=by rw[k1' hd nhl];exact hh
 have b1':H1 bd=some (.lst (bqs.map V.ref).reverse):=by rw[k1' bd nbl];exact hbb
 have lh:=fa.len
 refine⟨_,rfl,_,⟨self,_,dx,_,rfl,s1,T.je,T.yx,jg⟩,.inl ⟨rfl,_,qM.of h1'⟩,_,rfl,hd,_,_,rfl,rfl,h1',qv (by rw[List.length_reverse,List.length_map];omega),?_⟩
 intro H2 k2 e2
 have s2:H2 self=some (.ins t.qC dx (av hd bd lb)):=by rw[k2 self nsh];exact s1
 have b2':H2 bd=some (.lst (bqs.map V.ref).reverse):=by rw[k2 bd (Ne.symm nhb)];exact b1'
 have l2':H2 lb=some (.dK (Kl (ls ++ [n]))):=by rw[k2 lb (Ne.symm nhl)];exact e1
 refine⟨_,rfl,_,⟨self,_,dx,_,rfl,s2,T.je,T.kJ,(jx b1).trans jg⟩,.inl ⟨rfl,_,qM.of b2'⟩,Nat.zero_le _,?_⟩
 intro q H3 s3 hq e3
 refine⟨bd,_,_,rfl,rfl,s3 _ _ b2',qv (by rw[List.length_reverse,List.length_map];omega),?_⟩
 intro H4 k4 e4
 have ke:∀c o,c≠hd→c≠bd→c≠lb→H c=some o→H4 c=some o:=fun c o z1 z2 z3 e=>by
  rw[k4 c z2];refine s3 _ _ ?_;rw[k2 c z1,k1' c z3];exact e
 have Q6:=h.Q6
 have dom2:∀c∈self :: hd :: bd :: lb :: bqs,∃o,H2 c=some o:=fun c hc=>by
  by_cases q1:c=hd
  ·subst q1;exact⟨_,e2⟩
  ·rw[k2 c q1]
   by_cases q3:c=lb
   ·subst q3;exact⟨_,e1⟩
   ·rw[k1' c q3];exact Q6 c hc
 have qn:q∉self :: hd :: bd :: lb :: bqs:=fun z=>by
  obtain⟨o,e⟩:=dom2 q z
  rw[hq] at e;cases e
 have Hq:H q=none:=by
  cases z:H q with
  | none=>rfl
  | some o=>
   have q1:q≠hd:=fun y=>qn (by rw[y];simp)
   have q3:q≠lb:=fun y=>qn (by rw[y];simp)
   rw[k2 q q1,k1' q q3,z] at hq;cases hq
 have fm:Fm (self :: hd :: bd :: lb :: bqs) H H4:=fun c o hc e=>ke c o (fun z=>hc (by rw[z];simp)) (fun z=>hc (by rw[z];simp)) (fun z=>hc (by rw[z];simp)) e
 have hm:∀c∈self :: hd :: bd :: lb :: q :: bqs,c∈self :: hd :: bd :: lb :: bqs∨H c=none:=fun c hc=>by
  simp only[List.mem_cons] at hc
  rcases hc with z | z | z | z | z | z
  ·exact .inl (by simp [z])
  ·exact .inl (by simp [z])
  ·exact .inl (by simp [z])
  ·exact .inl (by simp [z])
  ·exact .inr (by rw[z];exact Hq)
  ·exact .inl (by simp [z])
 have qb:q≠bd:=fun y=>qn (by rw[y];simp)
 have q4:H4 q=some (.lst []):=by rw[k4 q qb];exact e3
 have nqs:∀c∈bqs,c≠hd∧c≠bd∧c≠lb:=fun c hc=>by
  simp only[List.nodup_cons,List.mem_cons,not_or] at nd
  exact⟨fun z=>nd.2.1.2.2 (by rw[←z];exact hc),fun z=>nd.2.2.1.2 (by rw[←z];exact hc),fun z=>nd.2.2.2.1 (by rw[←z];exact hc)⟩
 refine k1 (fun z=>z.elim n7 hnl) H4 (self :: hd :: bd :: lb :: q :: bqs) fm hm ⟨dx,hd,bd,lb,p :: hps,q :: bqs,rfl,?_,ke _ _ nsh nsb nsl se,?_,?_,?_,⟨⟨dxp,a,b,cJ hm hp ep,cJ hm ha ea,fm _ _ hp ep,fm _ _ ha ea⟩,⟨[],q4,by unfold xh;rfl,Nat.zero_le _⟩,fa.move fm hm (Nat.le_succ _) (fun c hc o e=>ke c o (nqs c hc).1 (nqs c hc).2.1 (nqs c hc).2.2 e)⟩,by rw[List.length_append];simp only[List.length_cons,List.length_nil];omega⟩
 ·have nd':=nd
  simp only[List.nodup_cons,List.mem_cons,not_or] at nd' qn ⊢
  exact⟨⟨nd'.1.1,nd'.1.2.1,nd'.1.2.2.1,Ne.symm qn.1,nd'.1.2.2.2⟩,⟨nd'.2.1.1,nd'.2.1.2.1,Ne.symm qn.2.1,nd'.2.1.2.2⟩,⟨nd'.2.2.1.1,Ne.symm qn.2.2.1,nd'.2.2.1.2⟩,⟨Ne.symm qn.2.2.2.1,nd'.2.2.2.1⟩,qn.2.2.2.2,nd'.2.2.2.2⟩
 ·rw[k4 hd nhb,List.map_cons,List.reverse_cons];exact s3 _ _ e2
 ·rw[List.map_cons,List.reverse_cons];exact e4
 ·rw[k4 lb (Ne.symm nbl)];exact s3 _ _ l2'
end
theorem yw.same {t:jf} {H H':Hp} {me:Addr} {fr:List Fr} {ls:List Str} {B:Nat} {ms:List Addr} (h:yw t H me fr ls B ms) (s:qp H H'):yw t H' me fr ls B ms:=by
 obtain⟨dx,hd,bd,lb,hps,bqs,e,h⟩:=h
 subst e
 exact⟨dx,hd,bd,lb,hps,bqs,rfl,h.nd,s _ _ h.se,s _ _ h.hh,s _ _ h.hb,s _ _ h.hl,h.fa.move (Fm.of s) (fun b hb=>.inl hb) (Nat.le_refl _) (fun c _ o e=>s _ _ e),h.nN⟩
theorem yw.up {t:jf} {H:Hp} {me:Addr} {fr:List Fr} {ls:List Str} {B B':Nat} {ms:List Addr} (h:yw t H me fr ls B ms) (hB:B≤B'):yw t H me fr ls B' ms:=by
 obtain⟨dx,hd,bd,lb,hps,bqs,e,h⟩:=h
 subst e
 exact⟨dx,hd,bd,lb,hps,bqs,rfl,h.nd,h.se,h.hh,h.hb,h.hl,h.fa.move (Fm.of (qp.refl _)) (fun b hb=>.inl hb) hB (fun c _ o e=>e),Nat.le_trans h.nN hB⟩
theorem yw.Q6 {t:jf} {H:Hp} {me:Addr} {fr:List Fr} {ls:List Str} {B:Nat} {ms:List Addr} (h:yw t H me fr ls B ms):∀b∈ms,∃o,H b=some o:=by
 obtain⟨dx,hd,bd,lb,hps,bqs,e,h⟩:=h
 subst e
 exact h.Q6
theorem yw.out {t:jf} {H:Hp} {me:Addr} {fr:List Fr} {ls:List Str} {B:Nat} {ms:List Addr} {p:Addr} (h:yw t H me fr ls B ms) (hp:H p=none):p∉ms:=fun z=>by
 obtain⟨o,e⟩:=h.Q6 p z
 rw[hp] at e;cases e
noncomputable def push:List Fr→Rw→List Fr
 | (n,rs,rows) :: fr,r=>(n,rs,rows ++ [r]) :: fr
 | [],_=>[]
noncomputable def pS (fr:List Fr) (ls:List Str) (x:Str):Option (List Fr × List Str):=
 if x = "done" then (match fr with
  | (n,rs,rows) :: (n2,rs2,rows2) :: fr'=>some ((n2,rs2,rows2 ++ [.pt n rs rows]) :: fr',ls)
  | _=>none)
 else match we (yt x) with
  | some (n,rs)=>if fr.length=7∨n∈ls then none else some ((n,rs,[]) :: fr,ls ++ [n])
  | none=>match jQ (yt x) with
   | some (k,l,u,a,n,r)=>if l∈ls then none else some (push fr (.cl k l u a n r),ls ++ [l])
   | none=>match QV (yt x) with
    | none=>none
    | some (n,v)=>some (push fr (.lt n v),ls)
noncomputable def Z9 (t:jf):Sp:=fun vs H Q _=>∃(self:Addr) (x:Str) (fr:List Fr) (ls:List Str) (B:Nat) (ms:List Addr),vs=[.ref self,.str x]∧yw t H self fr ls B ms∧B < 998∧x.length≤190∧fr≠[]∧fr.length≤7∧(pS fr ls x=none→∀H',Fm ms H H'→Q (.bl false) H')∧
 ∀fr' ls' H' ms',pS fr ls x=some (fr',ls')→Fm ms H H'→(∀b∈ms',b∈ms∨H b=none)→yw t H' self fr' ls' (B + 2) ms'→Q (.bl true) H'
section
variable {P:Program} {w:World} {K:PySem.W.Frag} {mg:Str→Option Value} {base:Heap} {t:jf}
theorem fS:qm ["self","clause"] ["self","clause"] (z6 qB):=⟨rfl,rfl,rfl,by decide +kernel,rfl,by decide +kernel,by decide +kernel⟩
set_option maxHeartbeats 400000 in
theorem fW (T:Txt K mg t):qr P w K mg base jy 3 t.xQ t.kA ["self","clause"] (XC t):=by
 refine T.vP.fn.ok fS (fun vs H Q E h=>(by obtain⟨_,_,_,_,_,_,_,_,_,_,_,_,_,_,_,rfl,_⟩:=h;rfl)) (fun cdv A outer s H vs Q E hr h=>?_)
 obtain⟨self,p,k,l,u,a,n,r,pn,rs,rows,fr,ls,B,ms,rfl,hb,hB,hp,hA,k0,k1⟩:=h
 refine⟨_,(z7 (qF (lU (Xm (xE hr) (jh (K:=K) rfl (pv 1) rfl) (jh (K:=K) rfl (pv 0) rfl)))
    (qz (qf yr)) ql)
   (z7 (gc yr (gd (jh (K:=K) rfl (pv 0) rfl) (jh (K:=K) rfl (pv 1) rfl) (kC (xE hr))))
   (z7 (jU (vp hr (pv 0) (z5 (pv 1) z8)))
   (qz (qf yr))))),?_⟩
 have M2:ja P w K mg base jy 2 t.qC "put_in" (Z8 t):=.mk' T.wx (gb T) T.yy.bd (by decide)
 obtain⟨dx,hd,bd,lb,hps,bqs,e,h⟩:=id hb
 subst e
 have fl:=hA.fl T
 refine⟨_,rfl,_,fl,_,rfl,_,h.f3 T,lb,_,rfl,vq.k (k:=.inr l) h.hl,?_⟩
 rw[ar]
 refine⟨_,rfl,?_⟩
 refine jm (fun h2=>?_) (fun h2=>?_)
 ·exact k0 (of_decide_eq_true h2)
 have hnl:l∉ls:=fun z=>h2 (decide_eq_true z)
 obtain⟨nd,se,hh,hbb,hl,fa,nN⟩:=id h
 have ndx:=nd
 simp only[List.nodup_cons,List.mem_cons,not_or] at ndx
 obtain⟨⟨nsh,nsb,nsl,_⟩,⟨nhb,nhl,_⟩,⟨nbl,_⟩,nlq,_⟩:=ndx
 refine⟨_,rfl,_,h.f3 T,_,rfl,_,fl,lb,_,.inr l,rfl,rfl,hl,qv (by unfold Kl;rw[List.length_map];omega),?_⟩
 intro H1 k1' e1
 rw[ZG hnl] at e1
 have fm:Fm (self :: hd :: bd :: lb :: bqs) H H1:=fun c o hc e=>by rw[k1' c (fun z=>hc (by rw[z];simp))];exact e
 have hm:∀c∈self :: hd :: bd :: lb :: bqs,c∈self :: hd :: bd :: lb :: bqs∨H c=none:=fun c hc=>.inl hc
 have s1:H1 self=some (.ins t.qC dx (av hd bd lb)):=by rw[k1' self nsl];exact se
 have hb1:yw t H1 self ((pn,rs,rows) :: fr) (ls ++ [l]) (B + 1) (self :: hd :: bd :: lb :: bqs):=⟨dx,hd,bd,lb,hps,bqs,rfl,nd,s1,by rw[k1' hd nhl];exact hh,by rw[k1' bd nbl];exact hbb,e1,fa.move fm hm (Nat.le_succ _) (fun c hc o e=>by rw[k1' c (fun z=>nlq (by rw[←z];exact hc))];exact e),by rw[List.length_append];simp only[List.length_cons,List.length_nil];omega⟩
 refine⟨_,rfl,self,_,dx,_,rfl,s1,T.je,aK,_,M2,?_⟩
 obtain⟨dxc,ec⟩:=hA
 have hr1:pA t (self :: hd :: bd :: lb :: bqs) H1 (.cl k l u a n r) (.ref p):=by unfold pA;exact⟨p,rfl,hp,dxc,fm _ _ hp ec⟩
 refine⟨_,rfl,self,.ref p,pn,rs,rows,fr,_,_,_,_,rfl,hb1,hr1,by omega,fun H2 fm2 hb2=>?_⟩
 exact k1 hnl H2 (fm.trans fm2 hm) hb2
theorem yv:qm ["self","row","head","clause","let"] ["self","row"] (z6 jA):=⟨rfl,rfl,rfl,by decide +kernel,rfl,by decide +kernel,by decide +kernel⟩
set_option maxHeartbeats 400000 in
theorem sH (T:Txt K mg t):qr P w K mg base jy 7 t.yY t.bI ["self","row"] (Z9 t):=by
 have G_v_clause_of:qr P w K mg base jy 6 t.yq t.wI ["row"] (eP t):=(lP T).mono (by decide)
 have G_v_let_of:qr P w K mg base jy 6 t.pk t.b9 ["row"] (Wg t):=(i9 T).mono (by decide)
 have G_v_part_of:qr P w K mg base jy 6 t.gD t.gF ["row"] (XA t):=(oa T).mono (by decide)
 refine T.dv.fn.ok yv (fun vs H Q E h=>(by obtain⟨_,_,_,_,_,_,rfl,_⟩:=h;rfl)) (fun cdv A outer s H vs Q E hr h=>?_)
 obtain⟨self,x,fr,ls,B,ms,rfl,hb,hB,hx,hne,h7,k0,k1⟩:=h
 refine⟨_,(z7 (qF (qt xj (pv 1) qk (qV _))
    (qz (qf (wN hr (pv 0)))) ql)
   (z7 (qu (i:=2) yv.nd rfl (Or.inl rfl) (qi G_v_part_of hr rfl T.bP.mg T.bP.fn.kp T.bP.bd .nil qK (z5 (pv 1) z8)))
   (z7 (qF (qt ZE (pv 2) pK (qV _))
    (qz (qf (vp hr (pv 0) (z5 (pv 2) z8)))) ql)
   (z7 (qu (i:=3) yv.nd rfl (Or.inl rfl) (qi G_v_clause_of hr rfl T.yn.mg T.yn.fn.kp T.yn.bd .nil qK (z5 (pv 1) z8)))
   (z7 (qF (qt ZE (pv 3) pK (qV _))
    (qz (qf (vp hr (pv 0) (z5 (pv 3) z8)))) ql)
   (z7 (qu (i:=4) yv.nd rfl (Or.inl rfl) (qi G_v_let_of hr rfl T.fE.mg T.fE.fn.kp T.fE.bd .nil qK (z5 (pv 1) z8)))
   (z7 (qF (qt Xf (pv 4) pK (qV _))
    (qz (qf yr)) ql)
   (z7 (jU (vp hr (pv 0) (z5 (pv 4) z8)))
   (qz (qf yr)))))))))),?_⟩
 have M1:ja P w K mg base jy 6 t.qC "takes_done" (XR t):=.mk' T.gv (dQ T) T.yo.bd (by decide)
 have M2:ja P w K mg base jy 6 t.qC "takes_head" (XS t):=.mk' T.gw (dJ T) T.yi.bd (by decide)
 have M3:ja P w K mg base jy 6 t.qC "takes_clause" (XC t):=.mk' T.yu (fW T) T.vP.bd (by decide)
 have M4:ja P w K mg base jy 6 t.qC "put_in" (Z8 t):=.mk' T.wx (gb T) T.yy.bd (by decide)
 obtain⟨dx,hd,bd,lb,hps,bqs,e,h⟩:=id hb
 obtain⟨pn,prs,prow,fr0,rfl⟩:∃pn prs prow fr0,fr=(pn,prs,prow) :: fr0:=by
  match fr,hne with
  | (a,b,c) :: r,_=>exact⟨a,b,c,r,rfl⟩
 have se:=h.se
 have hmm:∀c∈ms,c∈ms∨H c=none:=fun c hc=>.inl hc
 walk_at "rd"
 refine jm (fun h1=>?_) (fun h1=>?_)
 ·have hxd:x = "done":=rX h1
  refine⟨_,rfl,self,_,dx,_,rfl,se,T.je,GG,_,M1,?_⟩
  refine⟨self,_,ls,B,ms,rfl,hb,by omega,hne,fun hl1=>?_,fun n rs rows n2 rs2 rows2 fr' ef H' ms' fm sub hb'=>?_⟩
  ·refine k0 ?_ H (fun _ _ _ e=>e)
   unfold pS
   rw[if_pos hxd]
   have hf0:fr0=[]:=List.length_eq_zero_iff.mp (by simpa using hl1)
   rw[hf0]
  ·refine k1 _ _ H' ms' ?_ fm (fun b hb=>.inl (sub b hb)) (hb'.up (by omega))
   unfold pS
   rw[if_pos hxd,ef]
 have hxd:¬x = "done":=rK h1
 have eT:pS ((pn,prs,prow) :: fr0) ls x=(match we (yt x) with
  | some (n,rs)=>if ((pn,prs,prow) :: fr0).length=7∨n∈ls then none else some ((n,rs,[]) :: (pn,prs,prow) :: fr0,ls ++ [n])
  | none=>match jQ (yt x) with
   | some (k,l,u,a,n,r)=>if l∈ls then none else some (push ((pn,prs,prow) :: fr0) (.cl k l u a n r),ls ++ [l])
   | none=>match QV (yt x) with
    | none=>none
    | some (n,v)=>some (push ((pn,prs,prow) :: fr0) (.lt n v),ls)):=by unfold pS;rw[if_neg hxd]
 walk_at "rd"
 refine fun H1 s1=>⟨fun h0=>?_,fun p n rs h0 hp hP=>?_⟩
 ·rw[h0] at eT
  walk_at "rd"
  refine fun H2 s2=>⟨fun h0c=>?_,fun p k l u a n r h0c hp hA=>?_⟩
  ·rw[h0c] at eT
   walk_at "rd"
   refine fun H3 s3=>⟨fun h0l=>?_,fun p n v h0l hp hL=>?_⟩
   ·rw[h0l] at eT
    walk_at "rd"
    exact k0 eT H3 (Fm.of ((s1.trans s2).trans s3))
   ·rw[h0l] at eT
    have sA:qp H H3:=(s1.trans s2).trans s3
    have hout:p∉ms:=(hb.same (s1.trans s2)).out hp
    walk_at "rd"
    refine⟨self,_,dx,_,rfl,sA _ _ se,T.je,aK,_,M4,?_⟩
    refine⟨_,rfl,self,.ref p,pn,prs,prow,fr0,ls,B,ms,.lt n v,rfl,hb.same sA,(by unfold pA;exact⟨p,rfl,hout,hL⟩),by omega,fun H4 fm4 hb4=>?_⟩
    exact k1 _ _ H4 ms eT ((Fm.of sA).trans fm4 hmm) hmm (hb4.up (by omega))
  ·rw[h0c] at eT
   have sA:qp H H2:=s1.trans s2
   have hout:p∉ms:=(hb.same s1).out hp
   walk_at "rd"
   refine⟨self,_,dx,_,rfl,sA _ _ se,T.je,GY,_,M3,?_⟩
   refine⟨_,rfl,self,p,k,l,u,a,n,r,pn,prs,prow,fr0,ls,B,ms,rfl,hb.same sA,hB,hout,hA,fun hl=>?_,fun hl H' fm hb'=>?_⟩
   ·exact k0 (by rw[eT];exact if_pos hl) H2 (Fm.of sA)
   ·exact k1 _ _ H' ms (by rw[eT];exact if_neg hl) ((Fm.of sA).trans fm hmm) hmm hb'
 ·rw[h0] at eT
  obtain⟨dxp,a,b,q1,q2,q3,z1,z2⟩:=hP
  walk_at "rd"
  refine⟨self,_,dx,_,rfl,s1 _ _ se,T.je,GH,_,M2,?_⟩
  refine⟨_,rfl,self,p,dxp,a,b,n,rs,_,ls,B,ms,rfl,hb.same s1,by omega,h7,hb.out hp,hb.out z1,q1,q2,fun hl=>?_,fun hl H' ms' fm hm' hb'=>?_⟩
  ·exact k0 (by rw[eT];exact if_pos hl) H1 (Fm.of s1)
  ·exact k1 _ _ H' ms' (by rw[eT];exact if_neg hl) ((Fm.of s1).trans fm hmm) (fun c hc=>(hm' c hc).elim .inl (fun z=>.inr (s1.free z))) (hb'.up (by omega))
end
noncomputable def Hz (t:jf):Sp:=fun vs H Q _=>∃(self dx:Addr),vs=[.ref self]∧H self=some (.ins t.qC dx [])∧∀H' ms,(∀b o,b≠self→H b=some o→H' b=some o)→(∀b∈ms,b=self∨H b=none)→yw t H' self [("whole",[],[])] [] 0 ms→Q .non H'
noncomputable def br:Nat→List Str→List Fr→List Str→Except Nat (List Fr)
 | _,[],fr,_=>.ok fr
 | i,x :: r,fr,ls=>if i=90 then .error i else match pS fr ls x with
  | none=>.error i
  | some (fr',ls')=>br (i + 1) r fr' ls'
noncomputable def WD (n:Nat):Except Nat (List Fr)→Except Nat Rw
 | .error i=>.error i
 | .ok [(a,b,c)]=>.ok (.pt a b c)
 | .ok _=>.error n
noncomputable def dB (rows:List Str) (start:Nat):Except Nat Rw:=WD rows.length (br start (rows.drop start) [("whole",[],[])] [])
theorem Q1 {fr fr':List Fr} {ls ls':List Str} {x:Str} (h:pS fr ls x=some (fr',ls')) (h0:fr≠[]) (h7:fr.length≤7):fr'≠[]∧fr'.length≤7:=by
 obtain⟨pn,prs,prow,fr0,rfl⟩:∃pn prs prow fr0,fr=(pn,prs,prow) :: fr0:=by
  match fr,h0 with
  | (a,b,c) :: r,_=>exact⟨a,b,c,r,rfl⟩
 have hp:∀r,(push ((pn,prs,prow) :: fr0) r)≠[]∧(push ((pn,prs,prow) :: fr0) r).length≤7:=fun r=>⟨by simp [push],by simpa [push] using h7⟩
 unfold pS at h
 split at h
 ·match fr0,h with
  | (a,b,c) :: r,h=>
   cases h
   refine⟨by simp,?_⟩
   simp only[List.length_cons] at h7 ⊢
   omega
 ·split at h
  ·split at h
   ·cases h
   ·rename_i hn
    cases h
    refine⟨by simp,?_⟩
    have:¬((pn,prs,prow) :: fr0).length=7:=fun z=>hn (.inl z)
    simp only[List.length_cons] at h7 this ⊢
    omega
  ·split at h
   ·split at h
    ·cases h
    ·cases h;exact hp _
   ·split at h
    ·cases h
    ·cases h;exact hp _
noncomputable def Hv (K:PySem.W.Frag) (t:jf):Sp:=fun vs H Q E=>∃(a:Addr) (start:Nat) (rows:List Str),vs=[.ref a,.int start]∧qM K H a (rows.map V.str)∧start≤rows.length∧uz rows∧
 (∀n:Nat,dB rows start=.error n→∀c o H',Ku t n H c o H'→E c o H')∧∀rw p H',dB rows start=.ok rw→qp H H'→pA t [] H' rw (.ref p)→Q (.ref p) H'
theorem GR (a b c:Addr):qJ "labels" (.ref c) (qJ "bodies" (.ref b) (qJ "heads" (.ref a) []))=av a b c:=by
 simp only[qJ,av,if_neg (fun z=>b1 (Eq.symm z)),if_neg (fun z=>b2 (Eq.symm z)),if_neg (fun z=>b3 (Eq.symm z))]
theorem vi {H:Hp} {p:Addr} {o:HO}:Off p H (upd H p o):=fun c o' hc e=>by rw[qW hc];exact e
section
variable {P:Program} {w:World} {K:PySem.W.Frag} {mg:Str→Option Value} {base:Heap} {t:jf}
theorem oM:qm ["self"] ["self"] (z6 xm):=⟨rfl,rfl,rfl,by decide +kernel,rfl,by decide +kernel,by decide +kernel⟩
set_option maxHeartbeats 400000 in
theorem om (T:Txt K mg t):qr P w K mg base jy 3 t.yp t.gH ["self"] (Hz t):=by
 have M_Part_init:qr P w K mg base jy 1 t.ko t.vK ["self","name","rooms","rows"] (VZ K t):=(pJ T).mono (by decide)
 refine T.cE.fn.ok oM (fun vs H Q E h=>(by obtain⟨_,_,rfl,_⟩:=h;rfl)) (fun cdv A outer s H vs Q E hr h=>?_)
 obtain⟨self,dx,rfl,se,k⟩:=h
 refine⟨_,(z7 (jE (pv 0) (jb (z5 (kU T.cq M_Part_init hr rfl T.lg T.yU.bd .nil qK (z5 qk (z5 (jb z8) (z5 (jb z8) z8)))) z8)) rfl)
   (z7 (jE (pv 0) (jb (z5 (jb z8) z8)) rfl)
   (qz (jE (pv 0) cZ rfl)))),?_⟩
 refine⟨Nat.zero_le _,?_⟩
 intro a1 H1 s1 ha1 ea1
 refine⟨Nat.zero_le _,?_⟩
 intro a2 H2 s2 ha2 ea2
 intro p dxp hp hdxp hne
 have mk:∀c o,H2 c=some o→(upd (upd H2 dxp (HO.own p)) p (HO.ins t.jF dxp [])) c=some o:=wj hp hdxp
 refine⟨p,dxp,a1,a2,"whole",[],[],rfl,qy,mk _ _ (s2 _ _ ea1),mk _ _ ea2,fun H3 o3 h3=>⟨rfl,?_⟩⟩
 obtain⟨dx3,qa,qb,r1,r2,r3,z1,z2⟩:=h3
 have k3:qp H H3:=fun c o e=>o3 c o (qx (s2 _ _ (s1 _ _ e)) hp) (mk c o (s2 _ _ (s1 _ _ e)))
 refine⟨qv (by show 1≤1000;decide),?_⟩
 intro hd H4 s4 hhd ehd
 have se4:=s4 _ _ (k3 _ _ se)
 refine⟨_,rfl,self,_,dx,[],rfl,se4,T.je,T.yx,(by show 0 < 1000;decide),?_⟩
 have o5:Off self H4 (upd H4 self (.ins t.qC dx (qJ "heads" (.ref hd) []))):=vi
 generalize hH5:upd H4 self (.ins t.qC dx (qJ "heads" (.ref hd) []))=H5 at o5 ⊢
 have e5:H5 self=some (.ins t.qC dx (qJ "heads" (.ref hd) [])):=by rw[←hH5];exact qy
 refine⟨Nat.zero_le _,?_⟩
 intro q H6 s6 hq eq
 refine⟨qv (by show 1≤1000;decide),?_⟩
 intro bd H7 s7 hbd ebd
 refine⟨_,rfl,self,_,dx,_,rfl,s7 _ _ (s6 _ _ e5),T.je,T.kJ,(by show 1 < 1000;decide),?_⟩
 have o8:Off self H7 (upd H7 self (.ins t.qC dx (qJ "bodies" (.ref bd) (qJ "heads" (.ref hd) [])))):=vi
 generalize hH8:upd H7 self (.ins t.qC dx (qJ "bodies" (.ref bd) (qJ "heads" (.ref hd) [])))=H8 at o8 ⊢
 have e8:H8 self=some (.ins t.qC dx (qJ "bodies" (.ref bd) (qJ "heads" (.ref hd) []))):=by rw[←hH8];exact qy
 intro lb H9 s9 hlb elb
 refine⟨_,rfl,self,_,dx,_,rfl,s9 _ _ e8,T.je,T.gy,?_,?_⟩
 ·have:=xY ("bodies" : Str) (.ref bd) (qJ "heads" (.ref hd) [])
  have e:(qJ ("heads" : Str) (.ref hd) []).length=1:=rfl
  omega
 have o10:Off self H9 (upd H9 self (.ins t.qC dx (qJ "labels" (.ref lb) (qJ "bodies" (.ref bd) (qJ "heads" (.ref hd) []))))):=vi
 rw[GR] at o10 ⊢
 have hds:hd≠self:=Ne.symm (qx (k3 _ _ se) hhd)
 have qs:q≠self:=Ne.symm (qx e5 hq)
 have bs:bd≠self:=Ne.symm (qx (s6 _ _ e5) hbd)
 have lbs':lb≠self:=Ne.symm (qx e8 hlb)
 have ps:p≠self:=Ne.symm (qx (s2 _ _ (s1 _ _ se)) hp)
 have qas:qa≠self:=Ne.symm (qx (mk _ _ (s2 _ _ (s1 _ _ se))) z1)
 have up:∀c o,c≠self→H3 c=some o→H9 c=some o:=fun c o hc e=>s9 _ _ (o8 _ _ hc (s7 _ _ (s6 _ _ (o5 _ _ hc (s4 _ _ e)))))
 have h5d:H5 hd=some (.lst [.ref p]):=o5 _ _ hds ehd
 have h6d:=s6 _ _ h5d
 have h8d:H8 hd=some (.lst [.ref p]):=o8 _ _ hds (s7 _ _ h6d)
 have h8q:H8 q=some (.lst []):=o8 _ _ qs (s7 _ _ eq)
 have h8b:H8 bd=some (.lst [.ref q]):=o8 _ _ bs ebd
 have hqd:hd≠q:=qx h5d hq
 have hdb:hd≠bd:=qx h6d hbd
 have hdl:hd≠lb:=qx h8d hlb
 have bql:bd≠q:=Ne.symm (qx eq hbd)
 have bl:bd≠lb:=qx h8b hlb
 have lq:lb≠q:=Ne.symm (qx h8q hlb)
 have h5p:H5 p=some (.ins t.jF dx3 (Qn "whole" qa qb)):=o5 _ _ ps (s4 _ _ r1)
 have h5a:H5 qa=some (.lst (([]:List Str).map V.str)):=o5 _ _ qas (s4 _ _ r2)
 have nin:∀c o,c≠self→H3 c=some o→c∉[self,hd,bd,lb,q]:=fun c o hc e hm=>by
  have e5':H5 c=some o:=o5 _ _ hc (s4 _ _ e)
  (simp only[List.mem_cons,List.not_mem_nil,or_false] at hm)
  rcases hm with z | z | z | z | z
  ·exact hc z
  ·rw[z,hhd] at e;cases e
  ·have:=s6 _ _ e5';rw[z,hbd] at this;cases this
  ·have:=o8 _ _ hc (s7 _ _ (s6 _ _ e5'));rw[z,hlb] at this;cases this
  ·rw[z,hq] at e5';cases e5'
 have free:∀c,c∈[self,hd,bd,lb,q]→c=self∨H c=none:=fun c hm=>by
  (simp only[List.mem_cons,List.not_mem_nil,or_false] at hm)
  by_cases hc:c=self
  ·exact .inl hc
  ·refine .inr ?_
   cases z:H c with
   | none=>rfl
   | some o=>
    have:=nin c o hc (k3 _ _ z)
    exact absurd (by simpa using hm) this
 refine k _ [self,hd,bd,lb,q] (fun c o hc e=>o10 _ _ hc (up c o hc (k3 _ _ e))) free ⟨dx,hd,bd,lb,[p],[q],rfl,?_,qy,o10 _ _ hds (s9 _ _ h8d),o10 _ _ bs (s9 _ _ h8b),o10 _ _ lbs' elb,⟨⟨dx3,qa,qb,nin p _ ps r1,nin qa _ qas r2,o10 _ _ ps (up _ _ ps r1),o10 _ _ qas (up _ _ qas r2)⟩,⟨[],o10 _ _ qs (s9 _ _ h8q),by unfold xh;rfl,Nat.le_refl _⟩,True.intro⟩,Nat.le_refl _⟩
 simp only[List.nodup_cons,List.mem_cons,List.not_mem_nil,not_or,or_false,List.nodup_nil,not_false_eq_true,and_true]
 exact⟨⟨Ne.symm hds,Ne.symm bs,Ne.symm lbs',Ne.symm qs⟩,⟨hdb,hdl,hqd⟩,⟨bl,bql⟩,lq⟩
theorem yQ:qm ["rows","start","body","number"] ["rows","start"] (z6 jo):=⟨rfl,rfl,rfl,by decide +kernel,rfl,by decide +kernel,by decide +kernel⟩
set_option maxHeartbeats 400000 in
theorem u5 (T:Txt K mg t):qr P w K mg base (pT P w) 8 t.wz t.vN ["rows","start"] (Hv K t):=by
 have M_Body_init:qr P w K mg base jy 6 t.yp t.gH ["self"] (Hz t):=(om T).mono (by decide)
 have M_NoText_init:qr P w K mg base jy 6 t.xZ t.x8 ["self","row"] (ue K "row"):=(gp T).mono (by decide)
 refine T.wH.fn.Xh yQ (fun vs H Q E h=>(by obtain⟨_,_,_,rfl,_⟩:=h;rfl)) (fun cdv A outer s H vs Q E hr h=>?_)
 obtain⟨a,start,rows,rfl,hA,hst,hR,kE,kQ⟩:=h
 refine⟨_,(z7 (qu (i:=2) yQ.nd rfl (Or.inl rfl) (Xr T.ZD M_Body_init hr rfl T.JN T.cE.bd .nil qK))
   (z7 (wZ PassesOwn.leaving rfl (QD rfl T.gY (z5 (pv 1) (z5 (qG (qN (K:=K) rfl) rfl T.kg PySem.boot_len (z5 (pv 0) z8)) z8))) (jr (i:=3) yQ.nd rfl (Or.inl rfl))
    (qz (qF (PW.pt (fD (qt xj (pv 3) (xf rfl (T.uG).choose_spec (v:=.int 90) ⟨_,rfl⟩) (qV _)) (bf (gu (vZ (vp hr (pv 2) (z5 (qe (qw (K:=K) rfl) (pv 0) (pv 3) (fun _ _=>rfl)) z8)))))))
    (qz (wQ yM rfl (wa T.vH M_NoText_init hr rfl T.gx T.xW.bd .nil qK (z5 (pv 3) z8)))) ql)))
   (z7 (qF (qt tI (wN hr (pv 2)) z9 (qV _))
    (qz (wQ yM rfl (wa T.vH M_NoText_init hr rfl T.gx T.xW.bd .nil qK (z5 (qG (qN (K:=K) rfl) rfl T.kg PySem.boot_len (z5 (pv 0) z8)) z8)))) ql)
   (qz (qf (wN hr (pv 2))))))),?_⟩
 have M1:ja P w K mg base jy 7 t.qC "takes" (Z9 t):=.mk' T.mS (sH T) T.dv.bd (by decide)
 have M2:ja P w K mg base jy 7 t.qC "many_open" (oA t):=.mk' T.kc (wc T) T.kl.bd (by decide)
 have M3:ja P w K mg base jy 7 t.qC "closed" (sv t):=.mk' T.gk (fV T) T.gK.bd (by decide)
 intro self dx hs hdx hne
 refine⟨self,dx,rfl,qy,fun H1 ms k1 fr1 hb1=>⟨rfl,?_⟩⟩
 have s1:qp H H1:=fun c o e=>k1 c o (qx e hs) (wj hs hdx c o e)
 have f1:∀c∈ms,H c=none:=fun c hc=>by
  rcases fr1 c hc with z | z
  ·rw[z];exact hs
  ·cases q:H c with
   | none=>rfl
   | some o=>rw[wj hs hdx c o q] at z;cases z
 walk_at "rd"
 refine⟨a,_,rfl,.inl (s1.seq hA),?_⟩
 have hlen:(rows.map V.str).length=rows.length:=List.length_map ..
 refine⟨_,_,rfl,⟨by omega,by have:=hR.nN;omega,by omega,by have:=hR.nN;omega⟩,?_⟩
 have hn:(((rows.map V.str).length:Nat) - (start:Int)).toNat=rows.length - start:=by rw[hlen];omega
 rw[hn]
 refine yR (lo:=(start:Int)) (n:=rows.length - start) (fun i σ H'=>∃(fr:List Fr) (ls:List Str) (ms:List Addr) (v3:Option V),σ=[some (.ref a),some (.int start),some (.ref self),v3]∧qp H H'∧(∀c∈ms,H c=none)∧yw t H' self fr ls (2 * i) ms∧fr≠[]∧fr.length≤7∧br start (rows.drop start) [("whole",[],[])] []=br (start + i) (rows.drop (start + i)) fr ls)
  ⟨_,_,ms,none,rfl,s1,f1,hb1,by simp,by simp,by rw[Nat.add_zero]⟩ ?_ ?_
 ·rintro i σ H2 hi ⟨fr,ls,ms2,v3,rfl,s2,f2,hb2,hne2,h72,hr2⟩
  have hi':start + i < rows.length:=by omega
  have hwd:wd rows (start + i)∈rows:=uZ hi'
  have hd:rows.drop (start + i)=wd rows (start + i) :: rows.drop (start + i + 1):=by
   unfold wd
   rw[List.getD_eq_getElem?_getD,List.getElem?_eq_getElem hi']
   exact List.drop_eq_getElem_cons hi'
  rw[hd] at hr2
  have hfew:=hR.nN
  have eb:br (start + i) (wd rows (start + i) :: rows.drop (start + i + 1)) fr ls=if start + i=90 then .error (start + i) else match pS fr ls (wd rows (start + i)) with
   | none=>.error (start + i)
   | some (fr',ls')=>br (start + i + 1) (rows.drop (start + i + 1)) fr' ls':=by rw[br]
  have bad:br (start + i) (wd rows (start + i) :: rows.drop (start + i + 1)) fr ls=.error (start + i)→∀c o H',Ku t ((start:Int) + i) H c o H'→E c o H':=fun z c o H' q=>kE (start + i) (by unfold dB;rw[hr2,z];rfl) c o H' (by rw[Int.natCast_add];exact q)
  walk_at "rd"
  refine jm (fun h1=>?_) (fun h1=>?_)
  ·walk_at "rd"
   exact pV T fun c o H' z=>bad (by
    have:(start:Int) + i=90:=by simpa using h1
    rw[eb,if_pos (by omega)]) c o H' (z.back s2)
  have h90:¬start + i=90:=fun z=>h1 (by
   have:(start:Int) + i=90:=by omega
   simp [this])
  rw[if_neg h90] at eb
  obtain⟨dx2,hd2,bd2,lb2,hps2,bqs2,e2,h2⟩:=id hb2
  walk_at "rd"
  refine⟨self,_,dx2,_,rfl,h2.se,T.je,GB,_,M1,?_⟩
  have hix:uj (rows.map V.str) ((start:Int) + i)=some (.str (wd rows (start + i))):=by
   have:=yI (xs:=rows) (i:=(start:Int) + i) (by omega) (by omega)
   rw[this]
   unfold wd
   rw[show ((start:Int) + i).toNat=start + i by omega]
  refine⟨_,rfl,_,rfl,a,_,_,_,rfl,rfl,s2.seq hA,hix,?_⟩
  refine⟨self,_,fr,ls,2 * i,ms2,rfl,hb2,by omega,hR.short _ hwd,hne2,h72,fun hN H3 fm3=>?_,fun fr' ls' H3 ms3 hS fm3 hm3 hb3=>?_⟩
  ·rw[hN] at eb
   walk_at "rd"
   exact pV T fun c o H' z=>bad eb c o H' (z.back (fm3.Zz s2 f2))
  ·rw[hS] at eb
   obtain⟨g1,g2⟩:=Q1 hS hne2 h72
   walk_at "rd"
   exact⟨fr',ls',ms3,_,rfl,fm3.Zz s2 f2,fun c hc=>(hm3 c hc).elim (f2 c) (fun z=>s2.free z),hb3.up (by omega),g1,g2,by rw[hr2,eb];rfl⟩
 ·rintro σ H2 ⟨fr,ls,ms2,v3,rfl,s2,f2,hb2,hne2,h72,hr2⟩
  have hfew:=hR.nN
  rw[show start + (rows.length - start)=rows.length by omega,List.drop_length,br] at hr2
  obtain⟨dx2,hd2,bd2,lb2,hps2,bqs2,e2,h2⟩:=id hb2
  walk_at "rd"
  refine⟨self,_,dx2,_,rfl,h2.se,T.je,oh,_,M2,?_⟩
  refine⟨self,fr,ls,_,ms2,rfl,hb2,?_⟩
  walk_at "rd"
  refine jm (fun h1=>?_) (fun h1=>?_)
  ·have h1':(0:Int) < ((fr.length:Nat):Int) - 1:=of_decide_eq_true h1
   walk_at "rd"
   refine⟨a,_,rfl,.inl (s2.seq hA),?_⟩
   rw[hlen]
   walk_at "rd"
   exact pV T fun c o H' z=>kE rows.length (by
    unfold dB
    rw[hr2]
    match fr,h1' with
    | _ :: _ :: _,_=>rfl
    | [_],h=>exact absurd h (by simp)) c o H' (z.back s2)
  have h1':¬(0:Int) < ((fr.length:Nat):Int) - 1:=fun z=>h1 (decide_eq_true z)
  obtain⟨n,rs,rws,rfl⟩:∃n rs rws,fr=[(n,rs,rws)]:=by
   match fr,hne2,h1' with
   | [(n,rs,rws)],_,_=>exact⟨n,rs,rws,rfl⟩
   | _ :: _ :: _,_,h=>exact absurd (by simp only[List.length_cons];omega) h
  walk_at "rd"
  refine⟨self,_,dx2,_,rfl,h2.se,T.je,tS,_,M3,?_⟩
  refine⟨self,n,rs,rws,[],ls,_,ms2,rfl,hb2,by omega,fun p H3 ms3 fm3 sub3 hb3 hr3=>?_⟩
  exact kQ _ p H3 (by unfold dB;rw[hr2];rfl) (fm3.Zz s2 f2) (hr3.move (fun _ _ _ e=>e) (fun b hb=>by cases hb))
end
noncomputable def WS (a b c:Addr) (x:V):List (Str × V):=[("parties",.ref a),("acts",.ref b),("rooms",.ref c),("whole",x)]
theorem a1:¬(("parties" : Str) = "acts"):=by decide +kernel
theorem a2:¬(("parties" : Str) = "rooms"):=by decide +kernel
theorem a3:¬(("parties" : Str) = "whole"):=by decide +kernel
theorem a4:¬(("acts" : Str) = "rooms"):=by decide +kernel
theorem a5:¬(("acts" : Str) = "whole"):=by decide +kernel
theorem a6:¬(("rooms" : Str) = "whole"):=by decide +kernel
theorem GN (a b c:Addr) (x:V):qJ "whole" x (qJ "rooms" (.ref c) (qJ "acts" (.ref b) (qJ "parties" (.ref a) [])))=WS a b c x:=by
 simp only[qJ,WS,if_neg a1,if_neg a2,if_neg a3,if_neg a4,if_neg a5,if_neg a6]
noncomputable def Wy (K:PySem.W.Frag) (t:jf):Sp:=fun vs H Q _=>∃(p dx a b c:Addr) (x:V) (xs ys zs:List V),vs=[.ref p,.ref a,.ref b,.ref c,x]∧H p=some (.ins t.xb dx [])∧H a=some (.lst xs)∧H b=some (.lst ys)∧H c=some (.lst zs)∧
 ∀H' a' b' c',Off p H H'→H' p=some (.ins t.xb dx (WS a' b' c' x))→H' a'=some (.lst xs)→H' b'=some (.lst ys)→H' c'=some (.lst zs)→H a'=none→H b'=none→H c'=none→Q .non H'
noncomputable def bU (t:jf) (H:Hp) (p:Addr) (ps as:List Str) (rms:List (Str × Str)) (rw:Rw):Prop:=∃dx a b c x vs,H p=some (.ins t.xb dx (WS a b c x))∧H a=some (.lst (ps.map V.str))∧H b=some (.lst (as.map V.str))∧H c=some (.lst vs)∧Paired (vc H) vs rms∧pA t [] H rw x
theorem fK {H H':Hp} {p c:Addr} {o:HO} (f:Off p H H') (hp:H' p=some o) (hc:H' c=none):H c=none:=by
 cases e:H c with
 | none=>rfl
 | some u=>
  rw[f c u (fun z=>by rw[z,hp] at hc;cases hc) e] at hc
  cases hc
noncomputable def fU (rows:List Str):Except Nat (List Str × List Str × List (Str × Str) × Rw):=
 match wL rows 0 "parties" 4 [] with
 | none=>.error 0
 | some ps=>match wL rows 1 "acts" 6 ps with
  | none=>.error 1
  | some as=>match xV (ps ++ as) [] (rows.drop 2) with
   | .error n=>.error n
   | .ok rms=>match dB rows (2 + rms.length) with
    | .error n=>.error n
    | .ok rw=>.ok (ps,as,rms,rw)
theorem dW {taken:List Str}:∀{rest:List Str} {found rms:List (Str × Str)},xV taken found rest=.ok rms→rms.length≤found.length + rest.length∧rms≠[]
 | [],found,rms,h=>by
  unfold xV at h
  split at h
  ·cases h
  ·rename_i z;cases h;exact⟨by simp,z⟩
 | x :: r,found,rms,h=>by
  unfold xV at h
  split at h
  ·split at h
   ·cases h
   ·rename_i z;cases h;exact⟨by omega,z⟩
  ·split at h
   ·cases h
   ·have:=dW h
    rw[List.length_append] at this
    simp only[List.length_cons,List.length_nil] at this ⊢
    exact⟨by omega,this.2⟩
theorem Kv {rows:List Str} (hR:uz rows) (i:Nat):(wd rows i).length≤190:=by
 by_cases hi:i < rows.length
 ·exact hR.short _ (uZ hi)
 ·have hz:(wd rows i).length=0:=by
   unfold wd
   rw[List.getD_eq_getElem?_getD,List.getElem?_eq_none_iff.mpr (by omega)]
   decide +kernel
  omega
theorem lK {rows:List Str} {i:Nat} {x:Str} {m:Int} {taken ns:List Str} (hR:uz rows) (h:wL rows i x m taken=some ns):ns.length≤192:=by
 unfold wL at h
 split at h
 ·cases h
 ·dsimp only at h
  split at h
  ·cases h
  ·cases h
   have hn:=@tL (yt (wd rows i)) x m
   have hw:=(rJ (wd rows i)).2
   have:=Kv hR i
   omega
noncomputable def X3 (t:jf):Sp:=fun vs H Q E=>∃(x:Str),vs=[.str x]∧x.length≤60000∧uz (Txt.split x "; ")∧
 (∀n:Nat,fU (Txt.split x "; ")=.error n→∀c o H',Ku t n H c o H'→E c o H')∧∀ps as rms rw p H',fU (Txt.split x "; ")=.ok (ps,as,rms,rw)→qp H H'→bU t H' p ps as rms rw→Q (.ref p) H'
section
variable {P:Program} {w:World} {K:PySem.W.Frag} {mg:Str→Option Value} {base:Heap} {t:jf}
theorem oR:qm ["self","parties","acts","rooms","whole"] ["self","parties","acts","rooms","whole"] (z6 xr):=⟨rfl,rfl,rfl,by decide +kernel,rfl,by decide +kernel,by decide +kernel⟩
set_option maxHeartbeats 400000 in
theorem oo (T:Txt K mg t):qr P w K mg base jy 1 t.yf t.gP ["self","parties","acts","rooms","whole"] (Wy K t):=by
 refine T.c9.fn.ok oR (fun vs H Q E h=>(by obtain⟨_,_,_,_,_,_,_,_,_,rfl,_⟩:=h;rfl)) (fun cdv A outer s H vs Q E hr h=>?_)
 obtain⟨p,dx,a,b,c,x,xs,ys,zs,rfl,hp,hA,hB,hC,k⟩:=h
 refine⟨_,(z7 (jE (pv 0) (kx (fX (K:=K) rfl) rfl T.ux PyProof.Rows.boot_list (z5 (pv 1) z8)) rfl)
   (z7 (jE (pv 0) (kx (fX (K:=K) rfl) rfl T.ux PyProof.Rows.boot_list (z5 (pv 2) z8)) rfl)
   (z7 (jE (pv 0) (kx (fX (K:=K) rfl) rfl T.ux PyProof.Rows.boot_list (z5 (pv 3) z8)) rfl)
   (qz (jE (pv 0) (pv 4) rfl))))),?_⟩
 have na:a≠p:=lV hA hp (by intro z;cases z)
 have nb:b≠p:=lV hB hp (by intro z;cases z)
 have nc:c≠p:=lV hC hp (by intro z;cases z)
 refine⟨_,rfl,a,_,rfl,.inl (qM.of hA),?_⟩
 intro q1 H1 s1 hq1 e1
 refine⟨_,rfl,p,_,dx,_,rfl,s1 _ _ hp,T.gG,T.yZ,(by show 0 < 1000;decide),?_⟩
 have o2:Off p H1 (upd H1 p (.ins t.xb dx (qJ "parties" (.ref q1) []))):=vi
 generalize hH2:upd H1 p (.ins t.xb dx (qJ "parties" (.ref q1) []))=H2 at o2 ⊢
 have e2:H2 p=some (.ins t.xb dx (qJ "parties" (.ref q1) [])):=by rw[←hH2];exact qy
 refine⟨_,rfl,b,_,rfl,.inl (qM.of (o2 _ _ nb (s1 _ _ hB))),?_⟩
 intro q3 H3 s3 hq3 e3
 refine⟨_,rfl,p,_,dx,_,rfl,s3 _ _ e2,T.gG,T.pZ,(by show 1 < 1000;decide),?_⟩
 have o4:Off p H3 (upd H3 p (.ins t.xb dx (qJ "acts" (.ref q3) (qJ "parties" (.ref q1) [])))):=vi
 generalize hH4:upd H3 p (.ins t.xb dx (qJ "acts" (.ref q3) (qJ "parties" (.ref q1) [])))=H4 at o4 ⊢
 have e4:H4 p=some (.ins t.xb dx (qJ "acts" (.ref q3) (qJ "parties" (.ref q1) []))):=by rw[←hH4];exact qy
 refine⟨_,rfl,c,_,rfl,.inl (qM.of (o4 _ _ nc (s3 _ _ (o2 _ _ nc (s1 _ _ hC))))),?_⟩
 intro q5 H5 s5 hq5 e5
 have l2:(qJ ("acts" : Str) (.ref q3) (qJ "parties" (.ref q1) [])).length≤2:=by
  have:=xY ("acts" : Str) (.ref q3) (qJ "parties" (.ref q1) [])
  have e:(qJ ("parties" : Str) (.ref q1) []).length=1:=rfl
  omega
 refine⟨_,rfl,p,_,dx,_,rfl,s5 _ _ e4,T.gG,T.bh,by omega,?_⟩
 have o6:Off p H5 (upd H5 p (.ins t.xb dx (qJ "rooms" (.ref q5) (qJ "acts" (.ref q3) (qJ "parties" (.ref q1) []))))):=vi
 generalize hH6:upd H5 p (.ins t.xb dx (qJ "rooms" (.ref q5) (qJ "acts" (.ref q3) (qJ "parties" (.ref q1) []))))=H6 at o6 ⊢
 have e6:H6 p=some (.ins t.xb dx (qJ "rooms" (.ref q5) (qJ "acts" (.ref q3) (qJ "parties" (.ref q1) [])))):=by rw[←hH6];exact qy
 refine⟨_,rfl,_,rfl,p,_,dx,_,rfl,e6,T.gG,T.m9,?_,?_⟩
 ·have:=xY ("rooms" : Str) (.ref q5) (qJ "acts" (.ref q3) (qJ "parties" (.ref q1) []))
  omega
 have o7:Off p H6 (upd H6 p (.ins t.xb dx (qJ "whole" x (qJ "rooms" (.ref q5) (qJ "acts" (.ref q3) (qJ "parties" (.ref q1) [])))))):=vi
 rw[GN] at o7 ⊢
 have n1:q1≠p:=Ne.symm (qx hp hq1)
 have n3:q3≠p:=Ne.symm (qx e2 hq3)
 have n5:q5≠p:=Ne.symm (qx e4 hq5)
 exact k _ q1 q3 q5 (fun d o hd e=>o7 _ _ hd (o6 _ _ hd (s5 _ _ (o4 _ _ hd (s3 _ _ (o2 _ _ hd (s1 _ _ e))))))) qy (o7 _ _ n1 (o6 _ _ n1 (s5 _ _ (o4 _ _ n1 (s3 _ _ (o2 _ _ n1 e1)))))) (o7 _ _ n3 (o6 _ _ n3 (s5 _ _ (o4 _ _ n3 e3)))) (o7 _ _ n5 (o6 _ _ n5 e5)) hq1 (s1.free (fK o2 e2 hq3)) (s1.free (fK o2 e2 (s3.free (fK o4 e4 hq5))))
theorem yS:qm ["text","rows","parties","acts","rooms","whole"] ["text"] (z6 wX):=⟨rfl,rfl,rfl,by decide +kernel,rfl,by decide +kernel,by decide +kernel⟩
set_option maxHeartbeats 400000 in
theorem QB (T:Txt K mg t):qr P w K mg base (pT P w) 9 t.fq t.p8 ["text"] (X3 t):=by
 have G_v_read_names:qr P w K mg base (pT P w) 8 t.vE t.vS ["rows","number","word","most","taken"] (Hx K t):=(uA T).mono (by decide)
 have G_v_read_rooms:qr P w K mg base (pT P w) 8 t.vA t.vT ["rows","taken"] (Hk K t):=(u0 T).mono (by decide)
 have G_v_read_whole:qr P w K mg base (pT P w) 8 t.wz t.vN ["rows","start"] (Hv K t):=(u5 T).mono (by decide)
 have M_Pact_init:qr P w K mg base jy 7 t.yf t.gP ["self","parties","acts","rooms","whole"] (Wy K t):=(oo T).mono (by decide)
 refine T.so.fn.Xh yS (fun vs H Q E h=>(by obtain⟨_,rfl,_⟩:=h;rfl)) (fun cdv A outer s H vs Q E hr h=>?_)
 obtain⟨x,rfl,hx,hR,kE,kQ⟩:=h
 refine⟨_,(z7 (qu (i:=1) yS.nd rfl (Or.inl rfl) (vb PySem.F.plainAttrs_str PySem.F.slot_str_split PySem.F.type_str_split bH (pv 0) (z5 qk z8)))
   (z7 (qu (i:=2) yS.nd rfl (Or.inl rfl) (qi G_v_read_names hr rfl T.xi.mg T.xi.fn.kp T.xi.bd .nil (pU fun _ _ _ z=>z) (z5 (pv 1) (z5 z9 (z5 qk (z5 (xf rfl (T.fb).choose_spec (v:=.int 4) ⟨_,rfl⟩) (z5 (jb z8) z8)))))))
   (z7 (qu (i:=3) yS.nd rfl (Or.inl rfl) (qi G_v_read_names hr rfl T.xi.mg T.xi.fn.kp T.xi.bd .nil (pU fun _ _ _ z=>z) (z5 (pv 1) (z5 z9 (z5 qk (z5 (xf rfl (T.uW).choose_spec (v:=.int 6) ⟨_,rfl⟩) (z5 (pv 2) z8)))))))
   (z7 (qu (i:=4) yS.nd rfl (Or.inl rfl) (qi G_v_read_rooms hr rfl T.wG.mg T.wG.fn.kp T.wG.bd .nil (pU fun _ _ _ z=>z) (z5 (pv 1) (z5 (qg dZ (pv 2) (pv 3)) z8))))
   (z7 (qu (i:=5) yS.nd rfl (Or.inl rfl) (qi G_v_read_whole hr rfl T.wH.mg T.wH.fn.kp T.wH.bd .nil (pU fun _ _ _ z=>z) (z5 (pv 1) (z5 (qg jI (xf rfl (T.wq).choose_spec (v:=.int 2) ⟨_,rfl⟩) (qG (qN (K:=K) rfl) rfl T.kg PySem.boot_len (z5 (pv 4) z8))) z8))))
   (qz (qf (kU T.ZC M_Pact_init hr rfl T.JI T.c9.bd .nil qK (z5 (pv 2) (z5 (pv 3) (z5 (pv 4) (z5 (pv 5) z8)))))))))))),?_⟩
 walk_at "rd"
 refine⟨by rw[sizeLine_eq];omega,?_⟩
 intro lr H1 s1 hlr e1
 have hpos:1≤(Txt.split x (Str.ofString "; ")).length:=PyProof.Rows.split_pos x "; "
 have e1':H1 lr=some (.lst ((Txt.split x "; ").map V.str)):=e1
 clear e1
 generalize Txt.split x (Str.ofString "; ")=rows at *
 walk_at "rd"
 intro l0 H2 s2 hl0 e2
 have sA:qp H H2:=s1.trans s2
 refine⟨lr,l0,0,_,_,rows,[],rfl,qM.of (s2 _ _ e1'),e2,Nat.zero_le _,hR,Nat.zero_le _,by decide,fun hN c o H' z=>?_,fun ps lp H3 hS s3 hlp e3=>?_⟩
 ·exact kE 0 (by unfold fU;rw[hN]) c o H' (z.back sA)
 have hps:=lK hR hS
 walk_at "rd"
 refine⟨lr,lp,1,_,_,rows,ps,rfl,qM.of (s3 _ _ (s2 _ _ e1')),e3,hpos,hR,by omega,by decide,fun hN c o H' z=>?_,fun as la H4 hS4 s4 hla e4=>?_⟩
 ·exact kE 1 (by unfold fU;rw[hS];dsimp only;rw[hN]) c o H' (z.back (sA.trans s3))
 have has:=lK hR hS4
 walk_at "rd"
 refine⟨lp,la,_,_,rfl,rfl,s4 _ _ e3,e4,qv (by simp only[List.length_map];omega),?_⟩
 intro lt H5 s5 hlt e5
 have e5':H5 lt=some (.lst ((ps ++ as).map V.str)):=by rw[e5,List.map_append]
 have sB:qp H H5:=((sA.trans s3).trans s4).trans s5
 refine⟨lr,lt,rows,ps ++ as,rfl,qM.of (s5 _ _ (s4 _ _ (s3 _ _ (s2 _ _ e1')))),e5',hR,by rw[List.length_append];omega,fun n hN c o H' z=>?_,fun rms l6 H6 vs hS6 s6 hl6 e6 hP6=>?_⟩
 ·exact kE n (by unfold fU;rw[hS];dsimp only;rw[hS4];dsimp only;rw[hN]) c o H' (z.back sB)
 have hrl:=(dW hS6).1
 have hr0:=List.length_pos_iff.mpr (dW hS6).2
 rw[List.length_drop,List.length_nil,Nat.zero_add] at hrl
 have hvl:vs.length=rms.length:=Paired.length hP6
 walk_at "rd"
 refine⟨l6,_,rfl,.inl (qM.of e6),?_⟩
 refine⟨_,_,rfl,rfl,?_⟩
 have ecast:(2:Int) + ((vs.length:Nat):Int)=((2 + rms.length:Nat):Int):=by rw[hvl];omega
 have sC:qp H H6:=sB.trans s6
 refine⟨lr,2 + rms.length,rows,by rw[←ecast];rfl,qM.of (s6 _ _ (s5 _ _ (s4 _ _ (s3 _ _ (s2 _ _ e1'))))),by omega,hR,fun n hN c o H' z=>?_,fun rw' p H7 hS7 s7 hr7=>?_⟩
 ·exact kE n (by unfold fU;rw[hS];dsimp only;rw[hS4];dsimp only;rw[hS6];dsimp only;rw[hN]) c o H' (z.back sC)
 walk_at "rd"
 intro q dxq hq hdq hne
 have mk:∀c o,H7 c=some o→(upd (upd H7 dxq (HO.own q)) q (HO.ins t.xb dxq [])) c=some o:=wj hq hdq
 refine⟨q,dxq,lp,la,l6,.ref p,_,_,_,rfl,qy,mk _ _ (s7 _ _ (s6 _ _ (s5 _ _ (s4 _ _ e3)))),mk _ _ (s7 _ _ (s6 _ _ (s5 _ _ e4))),mk _ _ (s7 _ _ e6),fun H8 a' b' c' o8 g1 g2 g3 g4 _ _ _=>⟨rfl,?_⟩⟩
 have s8:qp H7 H8:=fun c o e=>o8 c o (qx e hq) (mk c o e)
 exact kQ ps as rms rw' q H8 (by unfold fU;rw[hS];dsimp only;rw[hS4];dsimp only;rw[hS6];dsimp only;rw[hS7]) ((sC.trans s7).trans s8) ⟨_,a',b',c',_,_,g1,g2,g3,g4,Paired.imp' (fun _ _ z=>z.same (s7.trans s8)) hP6,hr7.move (fun _ _ _ e=>s8 _ _ e) (fun b hb=>by cases hb)⟩
end
noncomputable def lits:List Str:=["any","must","may","not","by","else","to","let","be","part","in","calm","sore","end"]
noncomputable def Rt (k:Nat) (x:Str):Prop:=(k=0∧qX x=true)∨(k=1∧qX x=false∧0 < pQ x∧x∉lits)∨(k=2∧qX x=false∧pQ x=0∧x∉lits)∨(3≤k∧lits[k - 3]?=some x)
noncomputable def Ze (k p:Nat):Bool:=if p=100 then k == 0 else if p=101 then k == 0 || k == 3 else if p=102 then k == 1 else k == p
noncomputable def jT (ks ps:List Nat):Bool:=decide (ks.length=ps.length) && (ks.zip ps).all fun q=>Ze q.1 q.2
noncomputable def aM (p:Nat):Str:=if p=100 then "NAME" else if p=101 then "WHO" else if p=102 then "NUMBER" else lits.getD (p - 3) ""
noncomputable def uC:List Nat:=[100,100,4,100,7,102,8,100]
noncomputable def fP:List Nat:=[100,101,5,100]
noncomputable def aF:List Nat:=[100,101,5,6,100,8,100]
noncomputable def ur:List Nat:=[100,101,7,100,9,100]
noncomputable def Vg:List Nat:=[10,100,11,100]
noncomputable def tE:List Nat:=[12,100]
noncomputable def Xg (p:Nat):Bool:=p == 100 || p == 101 || p == 102 || (decide (3≤p) && decide (p≤16))
theorem xy:Zi=uC.map aM∧nT=fP.map aM∧KR=aF.map aM∧ak=ur.map aM∧JX=Vg.map aM∧rF=tE.map aM:=by decide +kernel
theorem rh:∀x∈lits,qX x=false∧pQ x=0:=by decide +kernel
theorem K3:lits.Nodup:=by decide +kernel
theorem nE:∀c∈qP.cps.toList,¬(48≤c∧c≤57):=by decide +kernel
theorem ZZ (z:Str) (c:Nat):has z c=decide (c∈z.cps.toList):=StrLaws.found_one z c
theorem sJ {x z:Str} {m:Int} (h:pO x z m=true):1≤x.length∧(x.length:Int)≤m∧∀c∈x.cps.toList,c∈z.cps.toList:=by
 unfold pO at h
 rw[Bool.and_eq_true,Bool.and_eq_true] at h
 obtain⟨⟨h1,h2⟩,h3⟩:=h
 refine⟨of_decide_eq_true h1,of_decide_eq_true h2,fun c hc=>?_⟩
 have:=List.all_eq_true.mp h3 c hc
 rw[ZZ] at this
 exact of_decide_eq_true this
theorem name_num {x:Str} (h:qX x=true):pQ x=0:=by
 unfold qX at h
 rw[Bool.and_eq_true] at h
 obtain⟨h1,_,h3⟩:=sJ h.1
 unfold pQ
 refine if_neg fun q=>?_
 obtain⟨_,_,d3⟩:=uR q.1
 obtain⟨c,e,_⟩:=iU h1
 have hc:c∈x.cps.toList:=List.mem_of_mem_head? e
 exact nE c (h3 c hc) (d3 c hc)
theorem J4 {x:Str} (h:qX x=true):x∉lits:=fun q=>by rw[(rh x q).1] at h;cases h
theorem W4 {k j:Nat} {x:Str} (hk:lits[k]?=some x) (hj:lits[j]?=some x):k=j:=cQ K3 hk hj
theorem Rt.num {k:Nat} {x:Str} (h:Rt k x):decide (pQ x > 0)=(k == 1):=by
 rcases h with ⟨rfl,h⟩ | ⟨rfl,h1,h2,h3⟩ | ⟨rfl,h1,h2,h3⟩ | ⟨h1,h2⟩
 ·rw[name_num h];rfl
 ·rw[decide_eq_true h2];rfl
 ·rw[h2];rfl
 ·have hm:=List.mem_of_getElem? h2
  rw[(rh x hm).2]
  have:(k == 1)=false:=beq_eq_false_iff_ne.mpr (by omega)
  rw[this];rfl
theorem Rt.name {k:Nat} {x:Str} (h:Rt k x):qX x=(k == 0):=by
 rcases h with ⟨rfl,h⟩ | ⟨rfl,h1,h2,h3⟩ | ⟨rfl,h1,h2,h3⟩ | ⟨h1,h2⟩
 ·rw[h];rfl
 ·rw[h1];rfl
 ·rw[h1];rfl
 ·have hm:=List.mem_of_getElem? h2
  rw[(rh x hm).1]
  exact(beq_eq_false_iff_ne.mpr (by omega)).symm
theorem Rt.lit {k j:Nat} {x y:Str} (h:Rt k x) (hj:lits[j]?=some y):decide (x=y)=(k == j + 3):=by
 have nm:x∉lits→k < 3→decide (x=y)=(k == j + 3):=fun h h3=>by
  have:¬x=y:=fun q=>h (by rw[q];exact List.mem_of_getElem? hj)
  rw[decide_eq_false this]
  exact(beq_eq_false_iff_ne.mpr (by omega)).symm
 rcases h with ⟨rfl,h⟩ | ⟨rfl,h1,h2,h3⟩ | ⟨rfl,h1,h2,h3⟩ | ⟨h1,h2⟩
 ·exact nm (J4 h) (by omega)
 ·exact nm h3 (by omega)
 ·exact nm h3 (by omega)
 ·by_cases q:k=j + 3
  ·subst q
   rw[Nat.add_sub_cancel] at h2
   rw[hj] at h2
   cases h2
   simp
  ·have:¬x=y:=fun e=>q (by subst e;have:=W4 h2 hj;omega)
   rw[decide_eq_false this]
   exact(beq_eq_false_iff_ne.mpr q).symm
theorem Yl:∀p < 17,3≤p→aM p≠"NAME"∧aM p≠"WHO"∧aM p≠"NUMBER"∧lits[p - 3]?=some (aM p):=by decide +kernel
theorem aw (x:Str):ym x "NAME" = qX x:=if_pos rfl
theorem Zj:("WHO" : Str)≠"NAME"∧("NUMBER" : Str)≠"NAME"∧("NUMBER" : Str)≠"WHO":=by decide +kernel
theorem Rt.fits {k p:Nat} {x:Str} (h:Rt k x) (hp:Xg p=true):ym x (aM p)=Ze k p:=by
 unfold Ze
 by_cases h1:p=100
 ·subst h1
  rw[if_pos rfl]
  show ym x "NAME" = _
  rw[aw,h.name]
 rw[if_neg h1]
 by_cases h2:p=101
 ·subst h2
  rw[if_pos rfl]
  show ym x "WHO" = _
  unfold ym
  rw[if_neg Zj.1,if_pos rfl,h.name,h.lit (j:=0) rfl]
 rw[if_neg h2]
 by_cases h3:p=102
 ·subst h3
  rw[if_pos rfl]
  show ym x "NUMBER" = _
  unfold ym
  rw[if_neg Zj.2.1,if_neg Zj.2.2,if_pos rfl,h.num]
 rw[if_neg h3]
 have hp':3≤p∧p≤16:=by
  unfold Xg at hp
  simp [h1,h2,h3] at hp
  exact hp
 obtain⟨a,b,c,d⟩:=Yl p (by omega) hp'.1
 unfold ym
 rw[if_neg a,if_neg b,if_neg c,h.lit d,Nat.sub_add_cancel hp'.1]
noncomputable abbrev mF:List Nat→List Str→Prop:=Paired Rt
theorem mF.fits:∀{ks:List Nat} {ws:List Str},mF ks ws→∀{ps:List Nat},ps.all Xg=true→km ws (ps.map aM)=jT ks ps:=by
 intro ks ws r ps hp
 unfold km jT
 rw[List.length_map,←r.length]
 congr 1
 induction r generalizing ps with
 | nil=>rfl
 | cons h t ih=>
  cases ps with
  | nil=>rfl
  | cons p ps=>
   rw[List.all_cons,Bool.and_eq_true] at hp
   rw[List.map_cons,List.zip_cons_cons,List.zip_cons_cons,List.all_cons,List.all_cons,ih hp.2]
   rw[show ym _ (aM p)=Ze _ p from h.fits hp.1]
noncomputable def nz (ks:List Nat):Bool:=jT (ks.take 2) tE && (ks.length == 2 || (ks.getD 2 99 == 13 && (decide (1≤(ks.drop 3).length) && decide ((ks.drop 3).length≤12) && (ks.drop 3).all (· == 0))))
noncomputable def Wz (ks:List Nat):Bool:=ks.length == 2 && (decide (14≤ks.getD 0 99) && decide (ks.getD 0 99≤16)) && ks.getD 1 99 == 0
noncomputable def Py (ks:List Nat):Bool:=!jT ks uC && !jT ks fP && !jT ks aF && !jT ks ur && !jT ks Vg && !nz ks && !Wz ks
noncomputable def Bz (ws:List Str):Prop:=jQ ws=none∧QV ws=none∧we ws=none∧fR ws=none
theorem mF.take:∀{ks:List Nat} {ws:List Str} (n:Nat),mF ks ws→mF (ks.take n) (ws.take n)
 | _,_,0,_=>.nil
 | _,_,_ + 1,.nil=>.nil
 | _,_,n + 1,.cons r t=>.cons r (mF.take n t)
theorem mF.drop:∀{ks:List Nat} {ws:List Str} (n:Nat),mF ks ws→mF (ks.drop n) (ws.drop n)
 | _,_,0,r=>r
 | _,_,_ + 1,.nil=>.nil
 | _,_,n + 1,.cons _ t=>mF.drop n t
theorem mF.append:∀{ks js:List Nat} {ws zs:List Str},mF ks ws→mF js zs→mF (ks ++ js) (ws ++ zs)
 | _,_,_,_,.nil,s=>s
 | _,_,_,_,.cons r t,s=>.cons r (mF.append t s)
theorem mF.pick:∀{ks:List Nat} {ws:List Str} {i:Nat},mF ks ws→i < ks.length→Rt (ks.getD i 99) (My.wd ws i)
 | _,_,_,.nil,h=>by simp at h
 | _,_,0,.cons r _,_=>r
 | _,_,i + 1,.cons _ t,h=>mF.pick (i:=i) t (by simpa using h)
theorem mF.names:∀{ks:List Nat} {ws:List Str},mF ks ws→ws.all qX=ks.all (· == 0)
 | _,_,.nil=>rfl
 | _,_,.cons r t=>by rw[List.all_cons,List.all_cons,mF.names t,r.name]
theorem aD:uC.all Xg=true∧fP.all Xg=true∧aF.all Xg=true∧ur.all Xg=true∧Vg.all Xg=true∧tE.all Xg=true:=by decide
theorem gh {ks ps:List Nat} {ws fs:List Str} (r:mF ks ws) (hp:ps.all Xg=true) (e:fs=ps.map aM) (h:jT ks ps=false):¬km ws fs=true:=by
 rw[e,r.fits hp,h]
 simp
theorem mP {ks ps:List Nat} {ws fs:List Str} (r:mF ks ws) (hp:ps.all Xg=true) (e:fs=ps.map aM) (h:jT ks ps=true):km ws fs=true:=by
 rw[e,r.fits hp,h]
theorem Qt {ks ps:List Nat} (h:jT ks ps=true):ks.length=ps.length:=by
 unfold jT at h
 rw[Bool.and_eq_true] at h
 exact of_decide_eq_true h.1
theorem mF.part {ks:List Nat} {ws:List Str} (r:mF ks ws) (h:nz ks=false):we ws=none:=by
 have hl:=r.length
 unfold we
 by_cases hf:km (ws.take 2) rF=true
 ·rw[if_pos hf]
  have hT:jT (ks.take 2) tE=true:=by
   have:=(r.take 2).fits aD.2.2.2.2.2
   rw[←xy.2.2.2.2.2,hf] at this
   exact this.symm
  have h2:2≤ks.length:=by have:(ks.take 2).length=2:=Qt hT;rw[List.length_take] at this;omega
  unfold nz at h
  rw[hT,Bool.true_and,Bool.or_eq_false_iff] at h
  have hn:¬ws.length=2:=fun q=>by
   have:ks.length=2:=by omega
   rw[this] at h
   simp at h
  rw[if_neg hn]
  refine if_pos ?_
  by_cases hin:wd ws 2 = "in"
  ·refine .inr ?_
   have r2:=mF.pick (i:=2) r (by omega)
   have e13:(ks.getD 2 99 == 13)=true:=by rw[←r2.lit (j:=10) (y:="in") rfl];exact decide_eq_true hin
   have h3:=h.2
   rw[e13,Bool.true_and] at h3
   unfold mD
   rw[(r.drop 3).names,←(r.drop 3).length]
   have hc:decide (((ks.drop 3).length:Int)≤12)=decide ((ks.drop 3).length≤12):=by
    by_cases q:(ks.drop 3).length≤12
    ·rw[decide_eq_true q,decide_eq_true (by omega)]
    ·rw[decide_eq_false q,decide_eq_false (by omega)]
   rw[hc]
   exact h3
  ·exact .inl hin
 ·exact if_neg hf
section
variable {P:Program} {w:World} {K:PySem.W.Frag} {mg:Str→Option Value} {base:Heap} {t:jf}
end
theorem oO {c:Nat}:∀{xs ys X Y:List Nat},c∉xs→c∉ys→xs ++ c :: X=ys ++ c :: Y→xs=ys∧X=Y
 | [],[],_,_,_,_,h=>by simpa using h
 | [],y :: ys,_,_,_,hy,h=>by
  simp only[List.nil_append,List.cons_append,List.cons.injEq] at h
  exact absurd (by rw[h.1];simp) hy
 | x :: xs,[],_,_,hx,_,h=>by
  simp only[List.nil_append,List.cons_append,List.cons.injEq] at h
  exact absurd (by rw[←h.1];simp) hx
 | x :: xs,y :: ys,X,Y,hx,hy,h=>by
  simp only[List.cons_append,List.cons.injEq] at h
  obtain⟨e1,e2⟩:=oO (c:=c) (fun q=>hx (List.mem_cons_of_mem _ q)) (fun q=>hy (List.mem_cons_of_mem _ q)) h.2
  exact⟨by rw[h.1,e1],e2⟩
theorem Qb:(" " : Str).cps.toList=[32]:=by decide +kernel
theorem Jp:(" " : Str)=⟨#[32]⟩:=by decide +kernel
theorem xF (x y:Str) (r:List Str):(Str.join " " (x :: y :: r)).cps.toList=x.cps.toList ++ 32 :: (Str.join " " (y :: r)).cps.toList:=by
 rw[iT,cps_append,cps_append,Qb]
 simp
theorem iS:∀{as bs:List Str},as≠[]→bs≠[]→(∀x∈as,32∉x.cps.toList)→(∀x∈bs,32∉x.cps.toList)→Str.join " " as=Str.join " " bs→as=bs
 | [],_,h,_,_,_,_=>absurd rfl h
 | _ :: _,[],_,h,_,_,_=>absurd rfl h
 | [a],[b],_,_,_,_,e=>by rw[show a=b from e]
 | [a],b :: b' :: r,_,_,ha,_,e=>by
  have e':=congrArg (fun z=>z.cps.toList) e
  simp only[xF,L2.join_one] at e'
  exact absurd (by rw[e'];simp) (ha a (by simp))
 | a :: a' :: r,[b],_,_,_,hb,e=>by
  have e':=congrArg (fun z=>z.cps.toList) e
  simp only[xF,L2.join_one] at e'
  exact absurd (by rw[←e'];simp) (hb b (by simp))
 | a :: a' :: r,b :: b' :: r',_,_,ha,hb,e=>by
  have e':=congrArg (fun z=>z.cps.toList) e
  simp only[xF] at e'
  obtain⟨e1,e2⟩:=oO (ha a (by simp)) (hb b (by simp)) e'
  have:=iS (as:=a' :: r) (bs:=b' :: r') (by simp) (by simp) (fun x hx=>ha x (List.mem_cons_of_mem _ hx)) (fun x hx=>hb x (List.mem_cons_of_mem _ hx)) (gE e2)
  rw[gE e1,this]
theorem sy {ws:List Str} (h:ws≠[]) (hb:∀x∈ws,32∉x.cps.toList):yt (Txt.join " " ws)=ws:=by
 unfold yt
 rw[join_eq]
 refine(iS h ?_ hb ?_ ?_).symm
 ·intro q
  have:=PyProof.Rows.split_pos (Str.join " " ws) " "
  rw[q] at this
  simp at this
 ·intro x hx
  rw[Jp] at hx
  exact StrLaws.split_free _ 32 x hx
 ·exact(StrLaws.join_split _ _).symm
structure Wk (x:Str):Prop where
 as:asc x
 nb:32∉x.cps.toList
noncomputable def eD (ws:List Str):Nat:=(ws.map (·.length)).sum + ws.length
theorem VH (as bs:List Str):eD (as ++ bs)=eD as + eD bs:=by
 unfold eD
 rw[List.map_append,List.sum_append,List.length_append]
 omega
theorem VB (x:Str):eD [x]=x.length + 1:=by simp [eD]
theorem sd {n:Nat}:∀{ws:List Str},(∀x∈ws,x.length≤n)→eD ws≤(n + 1) * ws.length
 | [],_=>by simp [eD]
 | x :: r,h=>by
  have h1:=h x (by simp)
  have h2:=sd (n:=n) (ws:=r) fun y hy=>h y (List.mem_cons_of_mem _ hy)
  have e:eD (x :: r)=eD [x] + eD r:=VH [x] r
  rw[e,VB,List.length_cons,Nat.mul_add]
  omega
theorem rZ (ws:List Str):(Txt.join " " ws).length≤eD ws:=by
 have:=rT " " ws
 have e:(" " : Str).length=1:=by decide +kernel
 rw[e] at this
 unfold eD
 omega
theorem Z2 (ws:List Str):(ws.map (·.length)).sum + ws.length * (" " : Str).length=eD ws:=by
 have e:(" " : Str).length=1:=by decide +kernel
 rw[e];unfold eD;omega
section
variable {P:Program} {w:World} {K:PySem.W.Frag} {mg:Str→Option Value} {base:Heap} {t:jf}
end
noncomputable def GV (c k:Int):Int:=(c % 2147483629 + 104729 * (k + 1)) % 2147483629 * ((c % 2147483629 + 104729 * (k + 1)) % 2147483629) % 2147483647 * 48271 % 2147483647 / 7
noncomputable def Gf (ns:List Int) (k:Int):Int:=if k < (ns.length:Int) then ns.getD k.toNat 0 % 1000000000000000000000007 else 0
noncomputable def BK (K:PySem.W.Frag):Sp:=fun vs H Q _=>∃(a:Addr) (k:Int) (ns:List Int),vs=[.ref a,.int k]∧qM K H a (ns.map V.int)∧0≤k∧Q (.int (Gf ns k)) H
noncomputable def Pu:Sp:=fun vs H Q _=>∃(c k:Int),vs=[.int c,.int k]∧0≤k∧k≤1000∧Q (.int (GV c k)) H
noncomputable abbrev sS:Str:="fgjkqvxz"
noncomputable def Ks:List Nat:=[102,103,106,107,113,118,120,122]
theorem Wq:sS.length=8∧sS.cps.toList=Ks:=by decide +kernel
theorem rg:qP.length=26∧qP.cps.toList.length=26:=by decide +kernel
theorem YV:∀c∈Ks,c∈qP.cps.toList:=by decide +kernel
theorem QZ:∀x∈gU,∀c∈x.cps.toList,c∉Ks:=by decide +kernel
noncomputable def aA (j:Int):Nat:=Ks.getD j.toNat 0
theorem K9 {x:Str} (h1:1≤x.length) (h2:x.length≤8) (h3:∀c∈x.cps.toList,c∈qP.cps.toList) (h4:∃c∈x.cps.toList,c∈Ks):qX x=true:=by
 unfold qX pO
 rw[decide_eq_true h1,decide_eq_true (show (x.length:Int)≤8 by omega)]
 have e:x.cps.toList.all (has qP)=true:=List.all_eq_true.mpr fun c hc=>by rw[ZZ];exact decide_eq_true (h3 c hc)
 rw[e,mJ]
 obtain⟨c,hc,hs⟩:=h4
 rw[decide_eq_false (fun q=>QZ x q c hc hs)]
 rfl
theorem vG {x:Str} (h:qX x=true):1≤x.length∧x.length≤8∧Wk x:=by
 unfold qX at h
 rw[Bool.and_eq_true] at h
 obtain⟨h1,h2,h3⟩:=sJ h.1
 refine⟨h1,by omega,fun c hc=>ZP.2.2 c (h3 c hc),fun hc=>?_⟩
 have:¬32∈qP.cps.toList:=by decide +kernel
 exact this (h3 32 hc)
noncomputable def JH:List Str:=["part","done","let","calm","sore","end","acts","any","in","else","may","not"]
noncomputable def HG (c:Int):Int:=2 + c / 81 % (7 - (if c % 3=1 then 1 else 0))
noncomputable def Pq (c:Int):Int:=c / 500 % HG c
noncomputable def FT (c:Int):Nat:=(JH.getD (c / 12 % 12).toNat "").length
noncomputable def Fh (c:Int):Int:=(Pq c + 1 + c / 3600 % (HG c - 1)) % HG c
noncomputable def dt (j:Int):Nat:=qP.cps.toList.getD (j % 26).toNat 0
noncomputable def P6 (c k:Int) (j:Nat):Nat:=if (j:Int)=Fh c then dt (k / 8 + c / 7) else if (j:Int)=Pq c then aA (k % 8) else dt (GV c j)
noncomputable def Gp (c k:Int):List Nat:=(List.range (HG c).toNat).map (P6 c k)
noncomputable def Fy (c k:Int):List Nat:=if c % 12=5∧k < 8 then [aA (k % 8)] else if c % 12=7 then (JH.getD (c / 12 % 12).toNat "").cps.toList ++ [aA (k % 8),dt (k / 8)] else if c % 3=1∧k % 2=1 then Gp c (k - 1) ++ [dt (c / 3)] else Gp c k
noncomputable def Fg (c k:Int):Str:=⟨(Fy c k).toArray⟩
noncomputable def HY:Sp:=fun vs H Q _=>∃(c k:Int),vs=[.int c,.int k]∧0≤c∧c < 1000000000∧0≤k∧k < 208∧∀H',qp H H'→Q (.str (Fg c k)) H'
theorem iq (k:Int):aA (k % 8)∈Ks:=by
 unfold aA
 have h0:0≤k % 8:=Int.emod_nonneg _ (by omega)
 have h1:k % 8 < 8:=Int.emod_lt_of_pos _ (by omega)
 have hj:(k % 8).toNat < Ks.length:=by show (k % 8).toNat < 8;omega
 rw[List.getD_eq_getElem?_getD,List.getElem?_eq_getElem hj]
 exact List.getElem_mem hj
theorem ZH (k:Int):qP.cps.toList.getD (k % 26).toNat 0∈qP.cps.toList:=by
 have h0:0≤k % 26:=Int.emod_nonneg _ (by omega)
 have h1:k % 26 < 26:=Int.emod_lt_of_pos _ (by omega)
 have hj:(k % 26).toNat < qP.cps.toList.length:=by rw[rg.2];omega
 rw[List.getD_eq_getElem?_getD,List.getElem?_eq_getElem hj]
 exact List.getElem_mem hj
noncomputable def LS (x:Str):Prop:=∀c∈x.cps.toList,c∈qP.cps.toList
noncomputable def PX (c k k':Int) (tl:Str):Prop:=(c % 3=1∧k % 2=1∧k'=k - 1∧tl.cps.toList=[dt (c / 3)])∨(¬(c % 3=1∧k % 2=1)∧k'=k∧tl = "")
theorem tP {a b:Int} (h:decide (V.int a=V.int b)=true):a=b:=by have:=of_decide_eq_true h;injection this
theorem rS {a b:Int} (h:a=b):decide (V.int a=V.int b)=true:=by subst h;exact decide_eq_true rfl
section
variable {P:Program} {w:World} {K:PySem.W.Frag} {mg:Str→Option Value} {base:Heap} {t:jf}
end
theorem Bh:qP.cps.toList.Nodup:=by decide +kernel
theorem Fo:Ks.Nodup:=by decide +kernel
theorem getD_inj {L:List Nat} (h:L.Nodup) {i j:Nat} (hi:i < L.length) (hj:j < L.length) (e:L.getD i 0=L.getD j 0):i=j:=by
 rw[List.getD_eq_getElem?_getD,List.getD_eq_getElem?_getD,List.getElem?_eq_getElem hi,List.getElem?_eq_getElem hj] at e
 have e':L[i]=L[j]:=e
 have hp:=List.nodup_iff_pairwise_ne.mp h
 rcases Nat.lt_trichotomy i j with q | q | q
 ·exact absurd e' (List.pairwise_iff_getElem.mp hp i j hi hj q)
 ·exact q
 ·exact absurd e'.symm (List.pairwise_iff_getElem.mp hp j i hj hi q)
theorem JL {a b:Int} (e:dt a=dt b):a % 26=b % 26:=by
 have a0:0≤a % 26:=Int.emod_nonneg _ (by decide)
 have a1:a % 26 < 26:=Int.emod_lt_of_pos _ (by decide)
 have b0:0≤b % 26:=Int.emod_nonneg _ (by decide)
 have b1:b % 26 < 26:=Int.emod_lt_of_pos _ (by decide)
 have:=getD_inj Bh (i:=(a % 26).toNat) (j:=(b % 26).toNat) (by rw[rg.2];omega) (by rw[rg.2];omega) e
 omega
theorem VQ {a b:Int} (e:aA (a % 8)=aA (b % 8)):a % 8=b % 8:=by
 have a0:0≤a % 8:=Int.emod_nonneg _ (by decide)
 have a1:a % 8 < 8:=Int.emod_lt_of_pos _ (by decide)
 have b0:0≤b % 8:=Int.emod_nonneg _ (by decide)
 have b1:b % 8 < 8:=Int.emod_lt_of_pos _ (by decide)
 have:=getD_inj Fo (i:=(a % 8).toNat) (j:=(b % 8).toNat) (by show _ < 8;omega) (by show _ < 8;omega) e
 omega
section
variable {P:Program} {w:World} {K:PySem.W.Frag} {mg:Str→Option Value} {base:Heap} {t:jf}
end
theorem Vo:("; " : Str)=⟨#[59,32]⟩:=by decide +kernel
theorem XW:("; " : Str).cps.toList=[59,32]:=by decide +kernel
noncomputable def Gx (l:List Nat):Prop:=∀j:Nat,l[j]?=some 59→l[j + 1]?=some 32→False
theorem Jb {x:Str} {i:Nat} (h1:x.cps.toList[i]?=some 59) (h2:x.cps.toList[i + 1]?=some 32):StrLaws.At x ⟨#[59,32]⟩ x.length i:=by
 obtain⟨g1,e1⟩:=List.getElem?_eq_some_iff.mp h1
 obtain⟨g2,e2⟩:=List.getElem?_eq_some_iff.mp h2
 have hl:x.cps.toList.length=x.length:=by simp [Str.length]
 refine⟨by show i + 2≤x.length;omega,?_⟩
 rw[StrLaws.subAt_eq]
 show ((x.cps.toList.drop i).take 2 == [59,32])=true
 rw[List.drop_eq_getElem_cons g1,List.drop_eq_getElem_cons g2,e1,e2]
 rfl
theorem eu {x:Str} {a b:Nat} (hn:∀k,a≤k→k < b→¬StrLaws.At x ⟨#[59,32]⟩ x.length k):Gx (Builtin.Str.strSub x a b).cps.toList:=by
 intro j h1 h2
 rw[StrLaws.strSub_toList] at h1 h2
 have hj:j + 1 < b - a:=by
  have:=(List.getElem?_eq_some_iff.mp h2).1
  rw[List.length_take] at this
  omega
 rw[List.getElem?_take_of_lt (by omega),List.getElem?_drop] at h1
 rw[List.getElem?_take_of_lt hj,List.getElem?_drop] at h2
 exact hn (a + j) (by omega) (by omega) (Jb h1 (by rw[Nat.add_assoc];exact h2))
theorem nj {x:Str}:∀{cuts:List Nat} {a f:Nat},StrLaws.ChainG x ⟨#[59,32]⟩ x.length a cuts f→(∀k,f≤k→¬StrLaws.At x ⟨#[59,32]⟩ x.length k)→∀p∈StrLaws.partsFrom x 2 a cuts,Gx p.cps.toList
 | [],a,f,h,hn,y,hy=>by
  obtain rfl:f=a:=h
  rw[List.mem_singleton.mp hy]
  exact eu fun k h1 _=>hn k h1
 | d :: r,a,f,h,hn,y,hy=>by
  rcases List.mem_cons.mp hy with rfl | hy'
  ·exact eu h.2.2.1
  ·exact nj h.2.2.2 hn y hy'
theorem QI (x:Str):∀p∈Txt.split x ⟨#[59,32]⟩,Gx p.cps.toList:=by
 obtain⟨f,hG,hn⟩:=StrLaws.occ_tight x ⟨#[59,32]⟩ (by show 1≤2;decide)
 intro p hp
 have whole:(∀k,¬StrLaws.At x ⟨#[59,32]⟩ x.length k)→Gx x.cps.toList:=fun h j h1 h2=>h j (Jb h1 h2)
 unfold Txt.split at hp
 split at hp
 ·rename_i hc
  rw[List.mem_singleton.mp hp]
  refine whole fun k hA=>?_
  (rw[Bool.or_eq_true,decide_eq_true_eq,decide_eq_true_eq] at hc)
  rcases hc with q | q
  ·have:=hA.1;omega
  ·have e:Builtin.Str.strKind ⟨#[59,32]⟩=1:=by decide +kernel
   rw[e] at q
   unfold Builtin.Str.strKind at q
   split at q
   ·omega
   ·split at q<;>omega
 ·split at hp
  ·rename_i he
   rw[List.mem_singleton.mp hp]
   rw[List.isEmpty_iff.mp he] at hG
   obtain rfl:f=0:=hG
   exact whole fun k=>hn k (Nat.zero_le _)
  ·rw[StrLaws.partsBetween_eq] at hp
   exact nj hG hn p hp
noncomputable def G2 (l:List Nat):Prop:=∀j:Nat,l[j]?=some 59→l[j + 1]?=some 32
theorem G2.free {l:List Nat} (h:59∉l):G2 l:=fun j e=>absurd (List.mem_of_getElem? e) h
theorem ki (x y:Str) (r:List Str):(Str.join "; " (x :: y :: r)).cps.toList=x.cps.toList ++ 59 :: 32 :: (Str.join "; " (y :: r)).cps.toList:=by
 rw[iT,cps_append,cps_append,XW]
 simp
theorem G2.glue {x l:List Nat} (hx:59∉x) (hl:G2 l):G2 (x ++ 59 :: 32 :: l):=by
 intro j e
 by_cases q:j < x.length
 ·rw[List.getElem?_append_left q] at e
  exact absurd (List.mem_of_getElem? e) hx
 ·rw[List.getElem?_append_right (by omega)] at e ⊢
  rw[show j + 1 - x.length=(j - x.length) + 1 by omega]
  generalize j - x.length=i at e ⊢
  match i,e with
  | 0,_=>rfl
  | 1,e=>cases e
  | i + 2,e=>exact hl i e
theorem G2.join:∀{rows:List Str},(∀x∈rows,59∉x.cps.toList)→G2 (Str.join "; " rows).cps.toList
 | [],_=>G2.free (by decide +kernel)
 | [x],h=>by rw[L2.join_one];exact G2.free (h x (by simp))
 | x :: y :: r,h=>by
  rw[ki]
  exact G2.glue (h x (by simp)) (G2.join fun z hz=>h z (List.mem_cons_of_mem _ hz))
theorem rM:∀{ps:List Str},G2 (Str.join "; " ps).cps.toList→(∀p∈ps,Gx p.cps.toList)→∀p∈ps,59∉p.cps.toList
 | [],_,_,p,hp=>by cases hp
 | [x],h,hn,p,hp=>by
  rw[L2.join_one] at h
  rw[List.mem_singleton.mp hp]
  intro hm
  (obtain⟨j,hj⟩:=List.getElem?_of_mem hm)
  exact hn x (by simp) j hj (h j hj)
 | x :: y :: r,h,hn,p,hp=>by
  rw[ki] at h
  have h':G2 (Str.join "; " (y :: r)).cps.toList:=fun j e=>by
   have:=h (x.cps.toList.length + (j + 2)) (by rw[List.getElem?_append_right (by omega),Nat.add_sub_cancel_left];exact e)
   rw[List.getElem?_append_right (by omega),show x.cps.toList.length + (j + 2) + 1 - x.cps.toList.length=j + 1 + 2 by omega] at this
   exact this
  (rcases List.mem_cons.mp hp with rfl | hp)
  ·intro hm
   (obtain⟨j,hj⟩:=List.getElem?_of_mem hm)
   have hjl:=(List.getElem?_eq_some_iff.mp hj).1
   have e:=h j (by rw[List.getElem?_append_left hjl];exact hj)
   by_cases q:j + 1 < p.cps.toList.length
   ·rw[List.getElem?_append_left q] at e
    exact hn p (by simp) j hj e
   ·rw[List.getElem?_append_right (by omega),show j + 1 - p.cps.toList.length=0 by omega] at e
    cases e
  ·exact rM h' (fun z hz=>hn z (List.mem_cons_of_mem _ hz)) p hp
theorem tD:∀{as bs:List Str},as≠[]→bs≠[]→(∀x∈as,59∉x.cps.toList)→(∀x∈bs,59∉x.cps.toList)→Str.join "; " as=Str.join "; " bs→as=bs
 | [],_,h,_,_,_,_=>absurd rfl h
 | _ :: _,[],_,h,_,_,_=>absurd rfl h
 | [a],[b],_,_,_,_,e=>by rw[show a=b from e]
 | [a],b :: b' :: r,_,_,ha,_,e=>by
  have e':=congrArg (fun z=>z.cps.toList) e
  simp only[ki,L2.join_one] at e'
  exact absurd (by rw[e'];simp) (ha a (by simp))
 | a :: a' :: r,[b],_,_,_,hb,e=>by
  have e':=congrArg (fun z=>z.cps.toList) e
  simp only[ki,L2.join_one] at e'
  exact absurd (by rw[←e'];simp) (hb b (by simp))
 | a :: a' :: r,b :: b' :: r',_,_,ha,hb,e=>by
  have e':=congrArg (fun z=>z.cps.toList) e
  simp only[ki] at e'
  obtain⟨e1,e2⟩:=oO (ha a (by simp)) (hb b (by simp)) e'
  have:=tD (as:=a' :: r) (bs:=b' :: r') (by simp) (by simp) (fun x hx=>ha x (List.mem_cons_of_mem _ hx)) (fun x hx=>hb x (List.mem_cons_of_mem _ hx)) (gE (List.cons.inj e2).2)
  rw[gE e1,this]
theorem QR {rows:List Str} (h:rows≠[]) (hb:∀x∈rows,59∉x.cps.toList):Txt.split (Txt.join "; " rows) "; " = rows:=by
 rw[join_eq]
 have hj:Str.join "; " (Txt.split (Str.join "; " rows) "; ")=Str.join "; " rows:=StrLaws.join_split _ _
 refine(tD h ?_ hb ?_ hj.symm).symm
 ·intro q
  have:=PyProof.Rows.split_pos (Str.join "; " rows) "; "
  rw[q] at this
  simp at this
 ·refine rM ?_ ?_
  ·rw[hj];exact G2.join hb
  ·rw[Vo];exact QI _
section
variable {P:Program} {w:World} {K:PySem.W.Frag} {mg:Str→Option Value} {base:Heap} {t:jf}
end
noncomputable def gX (ws:List Str):Str:=Txt.join " " ws
theorem ZU {x:Str} (h:qX x=true):32∉x.cps.toList:=(vG h).2.2.nb
theorem ZV:∀x∈(["let","be","part","done","parties","acts","calm","sore","end"]:List Str),32∉x.cps.toList∧59∉x.cps.toList∧x.length≤7:=by decide +kernel
theorem Vn {a b:Str} (ha:qX a=true) (hb:qX b=true):mF [10,0,11,0] ["let",a,"be",b]:=.cons (.inr (.inr (.inr ⟨by decide,rfl⟩))) (.cons (.inl ⟨rfl,ha⟩) (.cons (.inr (.inr (.inr ⟨by decide,rfl⟩))) (.cons (.inl ⟨rfl,hb⟩) .nil)))
theorem XQ {n:Str} (h:qX n=true):mF [12,0] ["part",n]:=.cons (.inr (.inr (.inr ⟨by decide,rfl⟩))) (.cons (.inl ⟨rfl,h⟩) .nil)
theorem fF {fr:List Fr} {r:Rw}:(push fr r).length=fr.length:=by
 cases fr with
 | nil=>rfl
 | cons f fr=>obtain⟨a,b,c⟩:=f;rfl
section
variable {P:Program} {w:World} {K:PySem.W.Frag} {mg:Str→Option Value} {base:Heap} {t:jf}
end
theorem ZS {n:Int} (h1:1≤n) (h2:n < 10 ^ 20):Rt 1 (Str.ofString (toString n))∧pQ (Str.ofString (toString n))=n∧Wk (Str.ofString (toString n))∧(Str.ofString (toString n)).length≤20:=by
 obtain⟨m,rfl⟩:=Int.eq_ofNat_of_zero_le (show 0≤n by omega)
 have e:=PySem.W.KIN.signs_num m
 have hg:=Xk (n:=(m:Int)) (by omega) (by omega)
 generalize hs:Str.ofString (toString ((m:Nat):Int))=s at *
 have hl:s.length=(Nat.toDigits 10 m).length:=by
  have:=congrArg List.length e
  rw[List.length_map] at this
  rw[←this]
  simp [Str.length]
 have hdig:PySem.NumText.AllDigits s.cps.toList:=by
  rw[e]
  intro c hc
  obtain⟨ch,hch,rfl⟩:=List.mem_map.mp hc
  have:=Nat.isDigit_of_mem_toDigits (b:=10) (by decide) (by decide) hch
  simp [Char.isDigit] at this
  exact⟨by have:=this.1;exact this,by have:=this.2;exact this⟩
 have hv:PySem.NumText.digitsVal s.cps.toList=m:=by rw[e];exact PySem.W.KIN.val_back m
 have hhead:s.cps.toList.head?≠some 48:=by
  intro q
  have ta:=PySem.NumText.toDigits_all s.cps.toList hdig
  rw[hv] at ta
  cases qc:s.cps.toList with
  | nil=>rw[qc] at q;cases q
  | cons c r=>
   rw[qc] at q ta hv
   have hc:c=48:=by simpa using q
   subst hc
   rw[List.dropWhile_cons] at ta
   have hlen:(Nat.toDigits 10 m).length=r.length + 1:=by
    rw[←hl]
    have:s.length=s.cps.toList.length:=by simp [Str.length]
    rw[this,qc];rfl
   have hd:(r.dropWhile (· == 48)).length≤r.length:=(List.dropWhile_sublist _).length_le
   cases qd:r.dropWhile (· == 48) with
   | nil=>
    simp only[show ((48:Nat) == 48)=true from rfl,if_true,qd] at ta
    rw[ta] at hlen
    have:r=[]:=by cases r;rfl;simp at hlen
    subst this
    have:PySem.NumText.digitsVal [48]=0:=rfl
    omega
   | cons d r'=>
    simp only[show ((48:Nat) == 48)=true from rfl,if_true,qd] at ta
    rw[ta,List.length_map] at hlen
    rw[qd] at hd
    omega
 have hlen20:s.length≤20:=by
  rw[hl]
  refine digits10_le (by decide) ?_
  exact_mod_cast h2
 have hw:pO s kD 20=true:=by
  unfold pO
  rw[decide_eq_true hg.2.1,decide_eq_true (show (s.length:Int)≤20 by omega)]
  simp only[Bool.true_and]
  exact List.all_eq_true.mpr fun c hc=>by rw[iR];exact decide_eq_true (hdig c hc)
 have hn:pQ s=(m:Int):=by
  unfold pQ
  rw[if_pos ⟨hw,hhead⟩,hv]
 have nl:qX s=false:=by
  cases q:qX s with
  | false=>rfl
  | true=>rw[name_num q] at hn;omega
 refine⟨.inr (.inl ⟨rfl,nl,by rw[hn];omega,fun q=>?_⟩),hn,⟨hg.2.2,fun hc=>?_⟩,hlen20⟩
 ·rw[(rh s q).2] at hn;omega
 ·have:=hdig 32 hc;omega
theorem K4:∀x∈lits,(∀c∈x.cps.toList,c < 128)∧32∉x.cps.toList∧x.length≤4:=by decide +kernel
theorem rn {x:Str} (h:qX x=true):Rt 0 x:=.inl ⟨rfl,h⟩
theorem rl {x:Str} {k:Nat} (h:lits[k]?=some x):Rt (k + 3) x:=.inr (.inr (.inr ⟨by omega,by rw[Nat.add_sub_cancel];exact h⟩))
structure Wt (k:Nat) (x:Str):Prop where
 rt:Rt k x
 wk:Wk x
 len:x.length≤20
theorem wn {x:Str} (h:qX x=true):Wt 0 x:=⟨rn h,(vG h).2.2,by have:=(vG h).2.1;omega⟩
theorem wl {x:Str} {k:Nat} (h:lits[k]?=some x):Wt (k + 3) x:=by
 obtain⟨h1,h2,h3⟩:=K4 x (List.mem_of_getElem? h)
 exact⟨rl h,⟨h1,h2⟩,by omega⟩
noncomputable abbrev Q5:List Nat→List Str→Prop:=Paired Wt
theorem Q5.Y9 {ks:List Nat} {ws:List Str} (h:Q5 ks ws):mF ks ws:=Paired.JA h fun _ _ q=>q.rt
theorem Q5.wk:∀{ks:List Nat} {ws:List Str},Q5 ks ws→∀x∈ws,Wk x∧x.length≤20
 | _,_,.nil,x,hx=>by cases hx
 | _,_,.cons r t,x,hx=>by
  (rcases List.mem_cons.mp hx with rfl | hx)
  ·exact⟨r.wk,r.len⟩
  ·exact Q5.wk t x hx
theorem KW {ks:List Nat} {ws:List Str} (r:mF ks ws) (h1:jT ks uC=false) (h2:jT ks fP=false) (h3:jT ks aF=false) (h4:jT ks ur=false):jQ ws=none:=by
 obtain⟨f1,f2,f3,f4,f5,f6⟩:=xy
 obtain⟨o1,o2,o3,o4,o5,o6⟩:=aD
 unfold jQ
 rw[if_neg (gh r o1 f1 h1),if_neg (gh r o2 f2 h2),if_neg (gh r o3 f3 h3),if_neg (gh r o4 f4 h4)]
noncomputable def Kw (u:Str):Prop:=qX u=true∨u = "any"
theorem wu {u:Str} (h:Kw u):∃k,(k=0∨k=3)∧Wt k u:=by
 rcases h with h | rfl
 ·exact⟨0,.inl rfl,wn h⟩
 ·exact⟨3,.inr rfl,wl (k:=0) rfl⟩
theorem en {ks:List Nat} {ws:List Str} (r:mF ks ws) (h:jT (ks.take 2) tE=true):km (ws.take 2) rF=true:=mP (r.take 2) aD.2.2.2.2.2 xy.2.2.2.2.2 h
theorem uQ:∀{rs:List Str},(∀x∈rs,qX x=true)→Q5 (List.replicate rs.length 0) rs
 | [],_=>.nil
 | x :: r,h=>.cons (wn (h x (by simp))) (uQ fun y hy=>h y (List.mem_cons_of_mem _ hy))
noncomputable def p6 (m:Nat):List Nat:=[12,0,13] ++ List.replicate m 0
noncomputable def V8 (m:Nat):Bool:=!jT (p6 m) uC && !jT (p6 m) fP && !jT (p6 m) aF && !jT (p6 m) ur && !jT (p6 m) Vg && !Wz (p6 m) && jT ((p6 m).take 2) tE
theorem Br:∀m < 13,1≤m→V8 m=true:=by decide +kernel
inductive Ew where
 | lt (a b:Str)
 | mu (l w a:Str) (n:Int) (r:Str)
 | my (l w a:Str)
 | bn (l w a r:Str)
 | pw (l w a r:Str)
 | pt (n:Str) (rs:List Str)
 | dn
noncomputable def Ew.ws:Ew→List Str
 | .lt a b=>["let",a,"be",b]
 | .mu l w a n r=>[l,w,"must",a,"by",Str.ofString (toString n),"else",r]
 | .my l w a=>[l,w,"may",a]
 | .bn l w a r=>[l,w,"may","not",a,"else",r]
 | .pw l w a r=>[l,w,"by",a,"to",r]
 | .pt n []=>["part",n]
 | .pt n (x :: rs)=>"part" :: n :: "in" :: x :: rs
 | .dn=>["done"]
noncomputable def Ew.row (e:Ew):Str:=Txt.join " " e.ws
noncomputable def Ew.ok:Ew→Prop
 | .lt a b=>qX a=true∧qX b=true
 | .mu l w a n r=>qX l=true∧qX w=true∧qX a=true∧1≤n∧n < 10 ^ 20∧qX r=true
 | .my l w a=>qX l=true∧Kw w∧qX a=true
 | .bn l w a r=>qX l=true∧Kw w∧qX a=true∧qX r=true
 | .pw l w a r=>qX l=true∧Kw w∧qX a=true∧qX r=true
 | .pt n rs=>qX n=true∧(∀x∈rs,qX x=true)∧rs.length≤12
 | .dn=>True
noncomputable def Ew.take (fr:List Fr) (ls:List Str):Ew→Option (List Fr × List Str)
 | .lt a b=>some (push fr (.lt a b),ls)
 | .mu l w a n r=>if l∈ls then none else some (push fr (.cl 0 l w a n r),ls ++ [l])
 | .my l w a=>if l∈ls then none else some (push fr (.cl 1 l w a 0 ""),ls ++ [l])
 | .bn l w a r=>if l∈ls then none else some (push fr (.cl 2 l w a 0 r),ls ++ [l])
 | .pw l w a r=>if l∈ls then none else some (push fr (.cl 3 l w a 0 r),ls ++ [l])
 | .pt n rs=>if fr.length=7∨n∈ls then none else some ((n,rs,[]) :: fr,ls ++ [n])
 | .dn=>match fr with
  | (n,rs,rows) :: (n2,rs2,rows2) :: fr'=>some ((n2,rs2,rows2 ++ [.pt n rs rows]) :: fr',ls)
  | _=>none
theorem Ew.FC:∀{e:Ew},e.ok→(∃ks,Q5 ks e.ws)∨e=.dn
 | .lt a b,h=>.inl ⟨_,.cons (wl (k:=7) rfl) (.cons (wn h.1) (.cons (wl (k:=8) rfl) (.cons (wn h.2) .nil)))⟩
 | .mu l w a n r,h=>by
  obtain⟨t1,t2,t3,t4⟩:=ZS h.2.2.2.1 h.2.2.2.2.1
  exact .inl ⟨[0,0,4,0,7,1,8,0],.cons (wn h.1) (.cons (wn h.2.1) (.cons (wl (k:=1) rfl) (.cons (wn h.2.2.1) (.cons (wl (k:=4) rfl) (.cons ⟨t1,t3,t4⟩ (.cons (wl (k:=5) rfl) (.cons (wn h.2.2.2.2.2) .nil)))))))⟩
 | .my l w a,h=>by
  obtain⟨k,hk,hw⟩:=wu h.2.1
  exact .inl ⟨[0,k,5,0],.cons (wn h.1) (.cons hw (.cons (wl (k:=2) rfl) (.cons (wn h.2.2) .nil)))⟩
 | .bn l w a r,h=>by
  obtain⟨k,hk,hw⟩:=wu h.2.1
  exact .inl ⟨[0,k,5,6,0,8,0],.cons (wn h.1) (.cons hw (.cons (wl (k:=2) rfl) (.cons (wl (k:=3) rfl) (.cons (wn h.2.2.1) (.cons (wl (k:=5) rfl) (.cons (wn h.2.2.2) .nil))))))⟩
 | .pw l w a r,h=>by
  obtain⟨k,hk,hw⟩:=wu h.2.1
  exact .inl ⟨[0,k,7,0,9,0],.cons (wn h.1) (.cons hw (.cons (wl (k:=4) rfl) (.cons (wn h.2.2.1) (.cons (wl (k:=6) rfl) (.cons (wn h.2.2.2) .nil)))))⟩
 | .pt n [],h=>.inl ⟨_,.cons (wl (k:=9) rfl) (.cons (wn h.1) .nil)⟩
 | .pt n (x :: rs),h=>.inl ⟨_,.cons (wl (k:=9) rfl) (.cons (wn h.1) (.cons (wl (k:=10) rfl) (uQ h.2.1)))⟩
 | .dn,_=>.inr rfl
theorem Ew.wk {e:Ew} (h:e.ok):∀x∈e.ws,Wk x∧x.length≤20:=by
 rcases Ew.FC h with ⟨ks,w⟩ | rfl
 ·exact w.wk
 ·intro x hx
  simp only[Ew.ws,List.mem_cons,List.not_mem_nil,or_false] at hx
  subst hx
  exact⟨⟨by unfold asc;decide +kernel,by decide +kernel⟩,by decide +kernel⟩
theorem Ew.ne (e:Ew):e.ws≠[]:=by
 cases e with
 | pt n rs=>cases rs<;>simp [Ew.ws]
 | _=>simp [Ew.ws]
theorem Ew.yt {e:Ew} (h:e.ok):yt e.row=e.ws:=sy e.ne fun x hx=>(Ew.wk h x hx).1.nb
theorem tX:Ew.row .dn = "done":=by decide +kernel
theorem Ew.Xj {e:Ew} (h:e.ok) (hn:e≠.dn):¬e.row = "done":=fun q=>by
 have e1:=Ew.yt h
 have e2:My.yt (Ew.row .dn)=(["done"]:List Str):=Ew.yt (e:=.dn) True.intro
 rw[q,←tX,e2] at e1
 cases e with
 | dn=>exact hn rfl
 | pt n rs=>cases rs<;>simp [Ew.ws] at e1
 | _=>simp [Ew.ws] at e1
theorem Ew.takes {e:Ew} (h:e.ok) (fr:List Fr) (ls:List Str):pS fr ls e.row=e.take fr ls:=by
 unfold pS
 by_cases hd:e=.dn
 ·subst hd
  rw[if_pos tX]
  rfl
 rw[if_neg (Ew.Xj h hd),Ew.yt h]
 cases e with
 | dn=>exact absurd rfl hd
 | lt a b=>
  have r:=Vn h.1 h.2
  have f5:we (Ew.lt a b).ws=none:=if_neg (gh (r.take 2) aD.2.2.2.2.2 xy.2.2.2.2.2 (by decide))
  have f6:jQ (Ew.lt a b).ws=none:=KW r (by decide) (by decide) (by decide) (by decide)
  have f7:QV (Ew.lt a b).ws=some (a,b):=if_pos (mP r aD.2.2.2.2.1 xy.2.2.2.2.1 (by decide))
  rw[f5]
  dsimp only
  rw[f6]
  dsimp only
  rw[f7]
  rfl
 | mu l w a n r'=>
  obtain⟨t1,t2,t3,t4⟩:=ZS h.2.2.2.1 h.2.2.2.2.1
  have hw:Q5 [0,0,4,0,7,1,8,0] (Ew.mu l w a n r').ws:=.cons (wn h.1) (.cons (wn h.2.1) (.cons (wl (k:=1) rfl) (.cons (wn h.2.2.1) (.cons (wl (k:=4) rfl) (.cons ⟨t1,t3,t4⟩ (.cons (wl (k:=5) rfl) (.cons (wn h.2.2.2.2.2) .nil)))))))
  have r:=hw.Y9
  have f5:we (Ew.mu l w a n r').ws=none:=r.part (by decide)
  have f6:jQ (Ew.mu l w a n r').ws=some (0,l,w,a,n,r'):=by
   unfold jQ
   rw[if_pos (mP r aD.1 xy.1 (by decide))]
   show some ((0:Int),l,w,a,pQ (Str.ofString (toString n)),r')=_
   rw[t2]
  rw[f5]
  dsimp only
  rw[f6]
  rfl
 | my l w a=>
  obtain⟨k,hk,hu⟩:=wu h.2.1
  have hw:Q5 [0,k,5,0] (Ew.my l w a).ws:=.cons (wn h.1) (.cons hu (.cons (wl (k:=2) rfl) (.cons (wn h.2.2) .nil)))
  have r:=hw.Y9
  have hdd:∀j,j=0∨j=3→(jT [0,j,5,0] uC=false∧jT [0,j,5,0] fP=true∧nz [0,j,5,0]=false):=by
   rintro j (rfl | rfl)<;>decide
  obtain⟨d1,d2,d4⟩:=hdd k hk
  have f5:we (Ew.my l w a).ws=none:=r.part d4
  have f6:jQ (Ew.my l w a).ws=some ((1:Int),l,w,a,(0:Int),("" : Str)):=by
   unfold jQ
   rw[if_neg (gh r aD.1 xy.1 d1),if_pos (mP r aD.2.1 xy.2.1 d2)]
   rfl
  rw[f5]
  dsimp only
  rw[f6]
  rfl
 | bn l w a r'=>
  obtain⟨k,hk,hu⟩:=wu h.2.1
  have hw:Q5 [0,k,5,6,0,8,0] (Ew.bn l w a r').ws:=.cons (wn h.1) (.cons hu (.cons (wl (k:=2) rfl) (.cons (wl (k:=3) rfl) (.cons (wn h.2.2.1) (.cons (wl (k:=5) rfl) (.cons (wn h.2.2.2) .nil))))))
  have r:=hw.Y9
  have hdd:∀j,j=0∨j=3→(jT [0,j,5,6,0,8,0] uC=false∧jT [0,j,5,6,0,8,0] fP=false∧jT [0,j,5,6,0,8,0] aF=true∧nz [0,j,5,6,0,8,0]=false):=by
   rintro j (rfl | rfl)<;>decide
  obtain⟨d1,d2,d3,d4⟩:=hdd k hk
  have f5:we (Ew.bn l w a r').ws=none:=r.part d4
  have f6:jQ (Ew.bn l w a r').ws=some (2,l,w,a,0,r'):=by
   unfold jQ
   rw[if_neg (gh r aD.1 xy.1 d1),if_neg (gh r aD.2.1 xy.2.1 d2),if_pos (mP r aD.2.2.1 xy.2.2.1 d3)]
   rfl
  rw[f5]
  dsimp only
  rw[f6]
  rfl
 | pw l w a r'=>
  obtain⟨k,hk,hu⟩:=wu h.2.1
  have hw:Q5 [0,k,7,0,9,0] (Ew.pw l w a r').ws:=.cons (wn h.1) (.cons hu (.cons (wl (k:=4) rfl) (.cons (wn h.2.2.1) (.cons (wl (k:=6) rfl) (.cons (wn h.2.2.2) .nil)))))
  have r:=hw.Y9
  have hdd:∀j,j=0∨j=3→(jT [0,j,7,0,9,0] uC=false∧jT [0,j,7,0,9,0] fP=false∧jT [0,j,7,0,9,0] aF=false∧jT [0,j,7,0,9,0] ur=true∧nz [0,j,7,0,9,0]=false):=by
   rintro j (rfl | rfl)<;>decide
  obtain⟨d1,d2,d3,d5,d4⟩:=hdd k hk
  have f5:we (Ew.pw l w a r').ws=none:=r.part d4
  have f6:jQ (Ew.pw l w a r').ws=some (3,l,w,a,0,r'):=by
   unfold jQ
   rw[if_neg (gh r aD.1 xy.1 d1),if_neg (gh r aD.2.1 xy.2.1 d2),if_neg (gh r aD.2.2.1 xy.2.2.1 d3),if_pos (mP r aD.2.2.2.1 xy.2.2.2.1 d5)]
   rfl
  rw[f5]
  dsimp only
  rw[f6]
  rfl
 | pt n rs=>
  have f5:we (Ew.pt n rs).ws=some (n,rs):=by
   cases rs with
   | nil=>
    have r:mF [12,0] (Ew.pt n []).ws:=XQ h.1
    unfold we
    rw[if_pos (en r (by decide)),if_pos (show (Ew.pt n []).ws.length=2 from rfl)]
    rfl
   | cons x rs=>
    have h3:Q5 [12,0,13] ["part",n,"in"]:=.cons (wl (k:=9) rfl) (.cons (wn h.1) (.cons (wl (k:=10) rfl) .nil))
    have r:mF (p6 (x :: rs).length) (Ew.pt n (x :: rs)).ws:=h3.Y9.append (uQ h.2.1).Y9
    have h2:(x :: rs).length≤12:=h.2.2
    have hpat:=Br (x :: rs).length (by omega) (by simp)
    unfold V8 at hpat
    simp only[Bool.and_eq_true,Bool.not_eq_true'] at hpat
    have ha:mD (x :: rs) 12=true:=by
     unfold mD
     rw[decide_eq_true (show 1≤(x :: rs).length by simp),decide_eq_true (show ((x :: rs).length:Int)≤12 by omega)]
     exact List.all_eq_true.mpr h.2.1
    unfold we
    have hl:¬(Ew.pt n (x :: rs)).ws.length=2:=by simp [Ew.ws]
    have hdr:(Ew.pt n (x :: rs)).ws.drop 3=x :: rs:=rfl
    rw[if_pos (en r hpat.2),if_neg hl,hdr,if_neg (fun q=>q.elim (fun q=>q rfl) (fun q=>by rw[ha] at q;cases q))]
    rfl
  rw[f5]
  rfl
section
variable {P:Program} {w:World} {K:PySem.W.Frag} {mg:Str→Option Value} {base:Heap} {t:jf}
end
structure Zb (ps as:List Str) (rms:List (Str × Str)):Prop where
 p1:1≤ps.length
 p2:ps.length≤4
 a1:1≤as.length
 a2:as.length≤6
 r1:1≤rms.length
 r2:rms.length≤12
 pn:∀x∈ps,qX x=true
 an:∀x∈as,qX x=true
 rn:∀mn∈rms,uT mn
 nd:(ps ++ as ++ rms.map (·.2)).Nodup
noncomputable def cB (mn:Str × Str):Str:=gX [mn.1,mn.2]
noncomputable def rowsOf (ps as:List Str) (rms:List (Str × Str)) (evs:List Ew):List Str:=gX ("parties" :: ps) :: gX ("acts" :: as) :: (rms.map cB ++ evs.map Ew.row)
theorem eF {x:Str} {ns:List Str} (hx:x∈(["parties","acts"]:List Str)) (hn:∀y∈ns,qX y=true):yt (gX (x :: ns))=x :: ns:=by
 refine sy (by simp) fun y hy=>?_
 rcases List.mem_cons.mp hy with rfl | hy
 ·simp only[List.mem_cons,List.not_mem_nil,or_false] at hx
  rcases hx with rfl | rfl
  ·exact(ZV _ (by simp)).1
  ·exact(ZV _ (by simp)).1
 ·exact ZU (hn y hy)
theorem Qh {ns:List Str} (hn:∀y∈ns,qX y=true):ns.all qX=true:=List.all_eq_true.mpr hn
theorem uD {x:Str} {ns:List Str} {m:Int} (h1:1≤ns.length) (hn:∀y∈ns,qX y=true) (hm:(ns.length:Int)≤m):k9 (x :: ns) x m=ns:=by
 unfold k9 mD
 rw[List.drop_one,List.tail_cons,Qh hn,decide_eq_true h1,show wd (x :: ns) 0=x from rfl,decide_eq_true hm,if_neg (by simp)]
theorem oy:∀x∈jk,32∉x.cps.toList∧59∉x.cps.toList∧x.length≤4∧x≠"part"∧x≠"done":=by decide +kernel
theorem YW {mn:Str × Str} (h:uT mn):yt (cB mn)=[mn.1,mn.2]:=by
 refine sy (by simp) fun y hy=>?_
 simp only[List.mem_cons,List.not_mem_nil,or_false] at hy
 rcases hy with rfl | rfl
 ·exact(oy _ h.1).1
 ·exact ZU h.2
theorem XZ {mn:Str × Str} (h:uT mn):fR (yt (cB mn))=some mn:=by
 rw[YW h]
 unfold fR
 rw[if_pos ⟨rfl,by rw[mJ];exact decide_eq_true h.1,h.2⟩]
 rfl
theorem Xe {e:Ew} (h:e.ok):fR (yt e.row)=none:=by
 rw[Ew.yt h]
 unfold fR
 refine if_neg fun q=>?_
 have hp:("part" : Str)∉jk:=by decide +kernel
 have two:∀{x y:Str} {r:List Str},1≤r.length→¬(x :: y :: r).length=2:=fun {x y r} h=>by simp only[List.length_cons];omega
 cases e with
 | pt n rs=>
  cases rs with
  | nil=>
   have:=q.2.1
   rw[mJ] at this
   exact hp (of_decide_eq_true this)
  | cons x rs=>exact two (by simp) q.1
 | dn=>exact absurd q.1 (by simp [Ew.ws])
 | lt a b=>exact two (by simp) q.1
 | mu l w a n r=>exact two (by simp) q.1
 | my l w a=>exact two (by simp) q.1
 | bn l w a r=>exact two (by simp) q.1
 | pw l w a r=>exact two (by simp) q.1
theorem nv {taken:List Str} {evs:List Ew} (he:∀e∈evs,e.ok):∀{rms found:List (Str × Str)},(∀mn∈rms,uT mn)→(taken ++ (found ++ rms).map (·.2)).Nodup→found ++ rms≠[]→found.length + rms.length≤12→
  xV taken found (rms.map cB ++ evs.map Ew.row)=.ok (found ++ rms)
 | [],found,_,_,hne,hf=>by
  rw[List.append_nil] at hne
  rw[List.map_nil,List.nil_append,List.append_nil]
  cases evs with
  | nil=>simp only[List.map_nil,xV,if_neg hne]
  | cons e r=>
   rw[List.map_cons,xV,Xe (he e List.mem_cons_self)]
   dsimp only
   rw[if_neg hne]
 | mn :: r,found,hr,hnd,hne,hf=>by
  have e:found ++ mn :: r=(found ++ [mn]) ++ r:=by simp
  rw[e] at hnd hne
  rw[List.map_cons,List.cons_append,xV,XZ (hr mn List.mem_cons_self)]
  dsimp only
  have hnd1:(taken ++ (found ++ [mn]).map (·.2)).Nodup:=by
   rw[List.map_append,←List.append_assoc] at hnd
   exact(List.nodup_append.mp hnd).1
  simp only[List.length_cons] at hf
  rw[if_neg (fun z=>z.elim (fun z=>by omega) (fun z=>z hnd1)),nv he (fun x hx=>hr x (List.mem_cons_of_mem _ hx)) hnd hne (by rw[List.length_append];simp only[List.length_cons,List.length_nil];omega),e]
theorem Vl {ps as:List Str} {rms:List (Str × Str)} {evs:List Ew} (h:Zb ps as rms) (he:∀e∈evs,e.ok) :
  fU (rowsOf ps as rms evs)=match WD (rowsOf ps as rms evs).length (br (2 + rms.length) (evs.map Ew.row) [("whole",[],[])] []) with
   | .error n=>.error n
   | .ok rw=>.ok (ps,as,rms,rw):=by
 have e0:yt (wd (rowsOf ps as rms evs) 0)=("parties" : Str) :: ps:=eF (by simp) h.pn
 have e1:yt (wd (rowsOf ps as rms evs) 1)=("acts" : Str) :: as:=eF (by simp) h.an
 have hlen:(rowsOf ps as rms evs).length=2 + rms.length + evs.length:=by unfold rowsOf;simp only[List.length_cons,List.length_append,List.length_map];omega
 have nd:=h.nd
 have nd2:(ps ++ as).Nodup:=(List.nodup_append.mp nd).1
 have nd1:ps.Nodup:=(List.nodup_append.mp nd2).1
 have h1:=h.p1;have h2:=h.p2;have h3:=h.a1;have h4:=h.a2;have h5:=h.r1;have h6:=h.r2
 have nps:ps≠[]:=fun z=>by rw[z] at h1;simp at h1
 have nas:as≠[]:=fun z=>by rw[z] at h3;simp at h3
 have nrm:rms≠[]:=fun z=>by rw[z] at h5;simp at h5
 have hn0:wL (rowsOf ps as rms evs) 0 "parties" 4 []=some ps:=by
  unfold wL
  rw[if_neg (by omega),e0]
  dsimp only
  rw[uD h.p1 h.pn (by omega),if_neg (fun z=>z.elim nps (fun z=>z (by simpa using nd1)))]
 have hn1:wL (rowsOf ps as rms evs) 1 "acts" 6 ps=some as:=by
  unfold wL
  rw[if_neg (by omega),e1]
  dsimp only
  rw[uD h.a1 h.an (by omega),if_neg (fun z=>z.elim nas (fun z=>z nd2))]
 have hrr:xV (ps ++ as) [] ((rowsOf ps as rms evs).drop 2)=.ok rms:=by
  have:=nv (taken:=ps ++ as) (evs:=evs) he (rms:=rms) (found:=[]) h.rn (by simpa using nd) (by simpa using nrm) (by simpa using h6)
  simpa [rowsOf] using this
 have hdrop:(rowsOf ps as rms evs).drop (2 + rms.length)=evs.map Ew.row:=by
  unfold rowsOf
  rw[show 2 + rms.length=rms.length + 1 + 1 by omega,List.drop_succ_cons,List.drop_succ_cons]
  rw[show rms.length=(rms.map cB).length by rw[List.length_map],List.drop_left]
 unfold fU
 rw[hn0]
 dsimp only
 rw[hn1]
 dsimp only
 rw[hrr]
 dsimp only
 unfold dB
 rw[hdrop]
 all_goals (cases WD (rowsOf ps as rms evs).length (br (2 + rms.length) (evs.map Ew.row) [("whole",[],[])] [])<;>rfl)
noncomputable def XJ:Nat→List Ew→List Fr→List Str→Except Nat (List Fr)
 | _,[],fr,_=>.ok fr
 | i,e :: r,fr,ls=>if i=90 then .error i else match e.take fr ls with
  | none=>.error i
  | some (fr',ls')=>XJ (i + 1) r fr' ls'
theorem iZ:∀{evs:List Ew} {i:Nat} {fr:List Fr} {ls:List Str},(∀e∈evs,e.ok)→br i (evs.map Ew.row) fr ls=XJ i evs fr ls
 | [],_,_,_,_=>rfl
 | e :: r,i,fr,ls,h=>by
  rw[List.map_cons,br,XJ,Ew.takes (h e List.mem_cons_self)]
  by_cases q:i=90
  ·rw[if_pos q,if_pos q]
  ·rw[if_neg q,if_neg q]
   cases e.take fr ls with
   | none=>rfl
   | some p=>exact iZ fun x hx=>h x (List.mem_cons_of_mem _ hx)
noncomputable def ub:Ew→List Str
 | .mu l _ _ _ _=>[l]
 | .my l _ _=>[l]
 | .bn l _ _ _=>[l]
 | .pw l _ _ _=>[l]
 | .pt n _=>[n]
 | _=>[]
noncomputable def rA (evs:List Ew):List Str:=evs.flatMap ub
noncomputable def dp (d:Nat):Ew→Option Nat
 | .pt _ _=>if d < 6 then some (d + 1) else none
 | .dn=>if 0 < d then some (d - 1) else none
 | _=>some d
noncomputable def Gd:Nat→List Ew→Option Nat
 | d,[]=>some d
 | d,e :: r=>(dp d e).bind fun d'=>Gd d' r
theorem VG {d d':Nat} {e:Ew} {fr:List Fr} {ls:List Str} (hd:dp d e=some d') (hf:fr.length=d + 1) (h6:d≤6) (hl:∀x∈ub e,x∉ls):∃fr',e.take fr ls=some (fr',ls ++ ub e)∧fr'.length=d' + 1∧d'≤6:=by
 cases e with
 | lt a b=>
  cases hd
  exact⟨push fr (.lt a b),by simp [Ew.take,ub],by rw[fF];exact hf,h6⟩
 | mu l w a n r=>
  cases hd
  exact⟨_,by rw[Ew.take,if_neg (hl l (by simp [ub]))];rfl,by rw[fF];exact hf,h6⟩
 | my l w a=>
  cases hd
  exact⟨_,by rw[Ew.take,if_neg (hl l (by simp [ub]))];rfl,by rw[fF];exact hf,h6⟩
 | bn l w a r=>
  cases hd
  exact⟨_,by rw[Ew.take,if_neg (hl l (by simp [ub]))];rfl,by rw[fF];exact hf,h6⟩
 | pw l w a r=>
  cases hd
  exact⟨_,by rw[Ew.take,if_neg (hl l (by simp [ub]))];rfl,by rw[fF];exact hf,h6⟩
 | pt n rs=>
  simp only[dp] at hd
  split at hd
  ·cases hd
   exact⟨_,by rw[Ew.take,if_neg (fun z=>z.elim (fun z=>by omega) (hl n (by simp [ub])))];rfl,by simp only[List.length_cons];omega,by omega⟩
  ·cases hd
 | dn=>
  simp only[dp] at hd
  split at hd
  ·cases hd
   match fr,hf with
   | [f],hf=>simp only[List.length_cons,List.length_nil] at hf;omega
   | (n,rs,rows) :: (n2,rs2,rows2) :: fr',hf=>
    exact⟨(n2,rs2,rows2 ++ [.pt n rs rows]) :: fr',by simp [Ew.take,ub],by simp only[List.length_cons] at hf ⊢;omega,by omega⟩
  ·cases hd
theorem XX:∀{evs:List Ew} {i d d':Nat} {fr:List Fr} {ls:List Str},Gd d evs=some d'→fr.length=d + 1→d≤6→(ls ++ rA evs).Nodup→i + evs.length≤90→∃fr',XJ i evs fr ls=.ok fr'∧fr'.length=d' + 1
 | [],i,d,d',fr,ls,h,hf,_,_,_=>by cases h;exact⟨fr,rfl,hf⟩
 | e :: r,i,d,d',fr,ls,h,hf,h6,hn,hi=>by
  rw[Gd] at h
  cases hd:dp d e with
  | none=>rw[hd] at h;cases h
  | some d1=>
   rw[hd,Option.bind_some] at h
   have hn':((ls ++ ub e) ++ rA r).Nodup:=by
    have:rA (e :: r)=ub e ++ rA r:=by simp [rA]
    rw[this,←List.append_assoc] at hn
    exact hn
   have hl:∀x∈ub e,x∉ls:=fun x hx hs=>by
    have:=(List.nodup_append.mp hn').1
    exact(List.nodup_append.mp this).2.2 x hs x hx rfl
   obtain⟨fr1,e1,l1,s1⟩:=VG hd hf h6 hl
   simp only[List.length_cons] at hi
   rw[XJ,if_neg (by omega),e1]
   exact XX h l1 s1 hn' (by omega)
section
variable {P:Program} {w:World} {K:PySem.W.Frag} {mg:Str→Option Value} {base:Heap} {t:jf}
end
noncomputable def cK (c:Int):Int:=c % 3
noncomputable def sr (c:Int):Int:=(c % 3 + 1 + c / 3 % 2) % 3
theorem Y7 (c:Int):0≤cK c∧cK c < 3∧0≤sr c∧sr c < 3∧cK c≠sr c:=by
 unfold cK sr
 have h1:c % 3=0∨c % 3=1∨c % 3=2:=by omega
 have h2:c / 3 % 2=0∨c / 3 % 2=1:=by omega
 rcases h1 with h1 | h1 | h1<;>rcases h2 with h2 | h2<;>rw[h1,h2]<;>decide
noncomputable def bT (c n:Int):Int:=n - n % 2 * (c / 6 % 2)
theorem Zd {c n:Int}:bT c n=n∨(n % 2=1∧bT c n=n - 1):=by
 unfold bT
 have h2:c / 6 % 2=0∨c / 6 % 2=1:=by omega
 have h1:n % 2=0∨n % 2=1:=by omega
 rcases h1 with h1 | h1<;>rcases h2 with h2 | h2<;>rw[h1,h2]<;>omega
noncomputable def iy (c b:Int):List Nat:=(((List.range 8).map fun j:Nat=>dt (c / 7 / ((j:Int) + 1) + (j:Int) * j)).set (cK c).toNat (aA ((b * 3 + c / 17) % 8))).set (sr c).toNat (dt (c / 11 + b / 8))
theorem YN (c b:Int):(iy c b).length=8:=by unfold iy;simp
theorem YI (c b:Int):(iy c b)[(cK c).toNat]?=some (aA ((b * 3 + c / 17) % 8)):=by
 have h:=Y7 c
 unfold iy
 rw[List.getElem?_set_ne (by omega),List.getElem?_set_self (by rw[List.length_map,List.length_range];omega)]
theorem YE (c b:Int):(iy c b)[(sr c).toNat]?=some (dt (c / 11 + b / 8)):=by
 have h:=Y7 c
 unfold iy
 rw[List.getElem?_set_self (by rw[List.length_set,List.length_map,List.length_range];omega)]
theorem YO (c b:Int):∀x∈iy c b,x∈qP.cps.toList:=by
 intro x hx
 unfold iy at hx
 rcases List.mem_or_eq_of_mem_set hx with hx | rfl
 ·rcases List.mem_or_eq_of_mem_set hx with hx | rfl
  ·obtain⟨j,_,rfl⟩:=List.mem_map.mp hx
   exact ZH _
  ·exact YV _ (iq _)
 ·exact ZH _
noncomputable def uy:List Str:=["any","part","done","let","may","end","not","else"]
theorem tH:∀x∈uy,3≤x.cps.toList.length∧x.cps.toList.length≤4∧(∀c∈x.cps.toList,c∈qP.cps.toList)∧∀c∈x.cps.toList,c∉Ks:=by decide +kernel
noncomputable def JG (c n:Int):Prop:=c / 12 % 6=1∧1 < n % 4
noncomputable instance (c n:Int):Decidable (JG c n):=by unfold JG;infer_instance
noncomputable def Pw (c:Int):Str:=uy.getD (c / 72 % 8).toNat ""
theorem JY (c:Int):Pw c∈uy:=by
 have b0:0≤c / 72 % 8:=Int.emod_nonneg _ (by decide)
 have b1:c / 72 % 8 < 8:=Int.emod_lt_of_pos _ (by decide)
 exact uZ (ws:=uy) (i:=(c / 72 % 8).toNat) (by show _ < 8;omega)
noncomputable def ZQ (c n:Int):Str:=if JG c n then Pw c else ""
noncomputable def sX (c n:Int):Int:=if JG c n then 3 + n - bT c n else 3 + c / (bT c n + 13) % 5 + n - bT c n
theorem pG (c n:Int):3≤sX c n∧sX c n≤8∧(JG c n→sX c n≤4):=by
 have hb:=@Zd c n
 unfold sX
 split
 ·omega
 ·have b0:0≤c / (bT c n + 13) % 5:=Int.emod_nonneg _ (by decide)
  have b1:c / (bT c n + 13) % 5 < 5:=Int.emod_lt_of_pos _ (by decide)
  refine⟨by omega,by omega,fun h=>absurd h (by assumption)⟩
noncomputable def ZL (c n:Int):List Nat:=(ZQ c n).cps.toList ++ (iy c (bT c n)).take (sX c n).toNat
noncomputable def eI (c n:Int):Str:=⟨(ZL c n).toArray⟩
theorem mX (c n:Int):(eI c n).cps.toList=ZL c n:=rfl
theorem JZ:("" : Str).cps.toList=[]:=by decide +kernel
theorem ua (c n:Int):((iy c (bT c n)).take (sX c n).toNat).length=(sX c n).toNat:=by
 have:=pG c n
 rw[List.length_take,YN]
 omega
theorem ik (c n:Int):((iy c (bT c n)).take (sX c n).toNat)[(cK c).toNat]?=some (aA ((bT c n * 3 + c / 17) % 8)):=by
 have:=pG c n
 have h:=Y7 c
 (rw[List.getElem?_take_of_lt (by omega)])
 exact YI _ _
theorem X8 (c n:Int):((iy c (bT c n)).take (sX c n).toNat)[(sr c).toNat]?=some (dt (c / 11 + bT c n / 8)):=by
 have:=pG c n
 have h:=Y7 c
 (rw[List.getElem?_take_of_lt (by omega)])
 exact YE _ _
theorem Xv (c n:Int):qX (eI c n)=true:=by
 have hs:=pG c n
 have hl:=ua c n
 have len:(eI c n).length=(ZL c n).length:=by rw[←mX];simp [Str.length]
 have hh:(ZQ c n).cps.toList.length + (sX c n).toNat≤8∧∀x∈(ZQ c n).cps.toList,x∈qP.cps.toList:=by
  unfold ZQ
  split
  ·rename_i q
   have:=hs.2.2 q
   obtain⟨g1,g2,g3,_⟩:=tH _ (JY c)
   exact⟨by omega,g3⟩
  ·rw[JZ]
   exact⟨by simp only[List.length_nil];omega,fun x hx=>by cases hx⟩
 refine K9 (by rw[len];unfold ZL;rw[List.length_append,hl];omega) (by rw[len];unfold ZL;rw[List.length_append,hl];omega) (fun x hx=>?_) ⟨aA ((bT c n * 3 + c / 17) % 8),?_,iq _⟩
 ·rw[mX] at hx
  (rcases List.mem_append.mp hx with hx | hx)
  ·exact hh.2 x hx
  ·exact YO _ _ x (List.mem_of_mem_take hx)
 ·rw[mX]
  exact List.mem_append_right _ (List.mem_of_getElem? (ik c n))
theorem ZT {c n m:Int} (h1:0≤n∧n < 80) (h2:0≤m∧m < 80) (e:(iy c (bT c n)).take (sX c n).toNat=(iy c (bT c m)).take (sX c m).toNat):bT c n=bT c m:=by
 have e1:=ik c n
 rw[e,ik c m] at e1
 have e2:=X8 c n
 rw[e,X8 c m] at e2
 have f1:=VQ (Option.some.inj e1)
 have f2:=JL (Option.some.inj e2)
 have b1:=@Zd c n
 have b2:=@Zd c m
 generalize c / 17=k at *
 generalize c / 11=k2 at *
 omega
theorem i6 {c n m:Int} (q:JG c n) (q2:¬JG c m) (e:ZL c n=ZL c m):False:=by
 have h:=Y7 c
 obtain⟨g1,g2,g3,g4⟩:=tH _ (JY c)
 have e1:(ZL c m)[(cK c).toNat]?=some (aA ((bT c m * 3 + c / 17) % 8)):=by
  unfold ZL ZQ
  rw[if_neg q2,JZ,List.nil_append]
  exact ik c m
 rw[←e] at e1
 unfold ZL ZQ at e1
 rw[if_pos q,List.getElem?_append_left (by omega)] at e1
 exact g4 _ (List.mem_of_getElem? e1) (iq _)
theorem Yv {c n m:Int} (h1:0≤n∧n < 80) (h2:0≤m∧m < 80) (e:eI c n=eI c m):n=m:=by
 have e':ZL c n=ZL c m:=by rw[←mX,←mX,e]
 by_cases q:JG c n<;>by_cases q2:JG c m
 ·have e2:=e'
  unfold ZL ZQ at e2
  rw[if_pos q,if_pos q2] at e2
  have e3:=List.append_cancel_left e2
  have hb:=ZT h1 h2 e3
  have hl:=congrArg List.length e3
  rw[ua,ua] at hl
  have s1:=pG c n
  have s2:=pG c m
  unfold sX at hl s1 s2
  rw[if_pos q] at hl s1
  rw[if_pos q2] at hl s2
  omega
 ·exact(i6 q q2 e').elim
 ·exact(i6 q2 q e'.symm).elim
 ·have e2:=e'
  unfold ZL ZQ at e2
  rw[if_neg q,if_neg q2] at e2
  have e3:=List.append_cancel_left e2
  have hb:=ZT h1 h2 e3
  have hl:=congrArg List.length e3
  rw[ua,ua] at hl
  have s1:=pG c n
  have s2:=pG c m
  unfold sX at hl s1 s2
  rw[if_neg q] at hl s1
  rw[if_neg q2] at hl s2
  rw[hb] at hl s1
  generalize c / (bT c m + 13) % 5=r at *
  omega
noncomputable def NZ (c:Int):List Str:=(List.range 80).map fun j:Nat=>eI c j
theorem nY (c:Int):(NZ c).length=80:=by unfold NZ;simp
theorem Jj (c:Int) {i:Nat} (h:i < 80):(NZ c).getD i (Str.ofString "")=eI c i:=by
 unfold NZ
 (rw[List.getD_eq_getElem?_getD,List.getElem?_map,List.getElem?_range h])
 rfl
theorem Gj (c:Int):(NZ c).Nodup:=by
 unfold NZ
 rw[List.nodup_iff_pairwise_ne,List.pairwise_map]
 refine List.Pairwise.imp_of_mem (fun {a b} ha hb hab z=>?_) (List.nodup_iff_pairwise_ne.mp List.nodup_range)
 have ha:=List.mem_range.mp ha
 have hb:=List.mem_range.mp hb
 have:=Yv (c:=c) (n:=a) (m:=b) (by omega) (by omega) z
 omega
theorem ir (c:Int):∀x∈NZ c,qX x=true:=fun x hx=>by
 unfold NZ at hx
 obtain⟨j,_,rfl⟩:=List.mem_map.mp hx
 exact Xv _ _
theorem join_ones:∀l:List Nat,(Str.join ("" : Str) (l.map fun c=>(⟨#[c]⟩:Str))).cps.toList=l
 | []=>by simp [Str.join,Str.empty]
 | [x]=>by simp [Str.join]
 | x :: y :: r=>by
  have e:Str.join ("" : Str) ((x :: y :: r).map fun c=>(⟨#[c]⟩:Str))=(⟨#[x]⟩:Str) ++ ("" : Str) ++ Str.join ("" : Str) ((y :: r).map fun c=>(⟨#[c]⟩:Str)):=rfl
  rw[e,cps_append,cps_append,JZ,join_ones (y :: r)]
  simp
theorem Vv (c n:Int):ZQ c n ++ Txt.join ("" : Str) (((iy c (bT c n)).take (sX c n).toNat).map fun c=>(⟨#[c]⟩:Str))=eI c n:=by
 refine gE ?_
 rw[cps_append,join_eq,join_ones,mX]
 rfl
section
variable {P:Program} {w:World} {K:PySem.W.Frag} {mg:Str→Option Value} {base:Heap} {t:jf}
end
noncomputable def XD (K:PySem.W.Frag):Sp:=fun vs H Q _=>∃(a:Addr) (k:Int) (ns:List Int),vs=[.ref a,.int k]∧qM K H a (ns.map V.int)∧0≤k∧k≤63∧∀c:Int,0≤c→c < 2147483629→Q (.int c) H
noncomputable def Wm:Sp:=fun vs H Q _=>∃(n m:Int),vs=[.int n,.int m]∧0≤n∧n < 2147483647∧0≤m∧m≤20∧∀l H' (xs:List Int),qp H H'→H l=none→H' l=some (.lst (xs.map V.int))→xs.length=m.toNat→(∀x∈xs,0≤x∧x < 429496730)→Q (.ref l) H'
noncomputable def Wh:Sp:=fun vs H Q _=>∃(c:Int),vs=[.int c,.int 80]∧0≤c∧c < 2147483629∧∀l H',qp H H'→H l=none→H' l=some (.lst ((NZ c).map V.str))→Q (.ref l) H'
theorem Vw (c:Int) (i:Nat):((List.range (i + 1)).map fun j:Nat=>eI c j)=((List.range i).map fun j:Nat=>eI c j) ++ [eI c i]:=by
 rw[List.range_succ,List.map_append];rfl
noncomputable def Wl (c:Int):List Nat:=(List.range 8).map fun j:Nat=>dt (c / 7 / ((j:Int) + 1) + (j:Int) * j)
theorem VM {c:Int} {ys:List V} (hl:ys.length=8) (h:∀(i:Nat) (v:V),i < 8→ys[i]?=some v→v=.str ⟨#[dt (c / 7 / ((i:Int) + 1) + (i:Int) * i)]⟩):ys=((Wl c).map fun c=>(⟨#[c]⟩:Str)).map V.str:=by
 apply List.ext_getElem?
 intro i
 by_cases hi:i < 8
 ·unfold Wl
  rw[List.getElem?_map,List.getElem?_map,List.getElem?_map,List.getElem?_range hi,List.getElem?_eq_getElem (by omega:i < ys.length)]
  exact congrArg some (h i _ hi (List.getElem?_eq_getElem (by omega)))
 ·rw[List.getElem?_eq_none_iff.mpr (by omega),List.getElem?_eq_none_iff.mpr (by unfold Wl;simp;omega)]
theorem eB (l:List Nat) (j c:Nat):((l.map fun c=>(⟨#[c]⟩:Str)).map V.str).set j (.str ⟨#[c]⟩)=((l.set j c).map fun c=>(⟨#[c]⟩:Str)).map V.str:=by rw[List.map_set,List.map_set]
theorem eh:∀l:List Nat,((l.map fun c=>(⟨#[c]⟩:Str)).map (·.length)).sum=l.length
 | []=>rfl
 | x :: l=>by
  rw[List.map_cons,List.map_cons,List.sum_cons,eh l,List.length_cons]
  show 1 + l.length=_
  omega
section
variable {P:Program} {w:World} {K:PySem.W.Frag} {mg:Str→Option Value} {base:Heap} {t:jf}
theorem bB:qm ["_law_script","_law_k","_law_number"] ["_law_script","_law_k"] (z6 wK):=⟨rfl,rfl,rfl,by decide +kernel,rfl,by decide +kernel,by decide +kernel⟩
set_option maxHeartbeats 400000 in
theorem tO (T:Txt K mg t):qr P w K mg base jy 1 t.fj t.p9 ["_law_script","_law_k"] (XD K):=by
 refine T.kY.fn.ok bB (fun vs H Q E h=>(by obtain⟨_,_,_,rfl,_⟩:=h;rfl)) (fun cdv A outer s H vs Q E hr h=>?_)
 obtain⟨a,k,ns,rfl,hA,k0,k1,kk⟩:=h
 refine⟨_,(z7 (qu (i:=2) bB.nd rfl (Or.inl rfl) (qg jI (qg wo (pv 1) z9) z9))
   (z7 (PS.join (qF (qt ZO (pv 1) (qG (qN (K:=K) rfl) rfl T.kg PySem.boot_len (z5 (pv 0) z8)) (qV _))
    (qz (qu (i:=2) bB.nd rfl (Or.inl rfl) (qg qU (qe (qw (K:=K) rfl) (pv 0) (pv 1) (fun _ _=>rfl)) z9))) (qz (PS.join (qF (qt tI (qG (qN (K:=K) rfl) rfl T.kg PySem.boot_len (z5 (pv 0) z8)) z9 (qV _))
    (qz (qu (i:=2) bB.nd rfl (Or.inl rfl) (qg jI (qg qU (qe (qw (K:=K) rfl) (pv 0) (qg qU (qg wo (pv 1) z9) (qG (qN (K:=K) rfl) rfl T.kg PySem.boot_len (z5 (pv 0) z8))) (fun _ _=>rfl)) z9) (qg wo (pv 1) z9)))) ql)))))
   (z7 (qu (i:=2) bB.nd rfl (Or.inl rfl) (qg qU (qg wo (qg jI (qg jI (pv 2) (qg wo (pv 1) (pv 1))) z9) z9) z9))
   (qz (qf (qg qU (qg wo (pv 2) z9) z9)))))),?_⟩
 walk_at "rd"
 refine⟨fun σ' H'=>(∃n:Int,σ'=[some (.ref a),some (.int k),some (.int n)]∧H'=H)∨False,?_,?_⟩
 ·refine⟨_,rfl,_,rfl,a,_,rfl,.inl hA,_,_,rfl,rfl,_,rfl,?_⟩
  rw[List.length_map]
  refine jm (fun h1=>?_) (fun h1=>?_)
  ·have h1':k < (ns.length:Int):=of_decide_eq_true h1
   walk_at "rd"
   exact .inl ⟨_,rfl,rfl⟩
  ·refine⟨fun σ' H'=>(∃n:Int,σ'=[some (.ref a),some (.int k),some (.int n)]∧H'=H)∨False,?_,?_⟩
   ·refine⟨_,rfl,a,_,rfl,.inl hA,_,_,rfl,rfl,_,rfl,?_⟩
    rw[List.length_map]
    refine jm (fun h2=>?_) (fun h2=>.inl ⟨_,rfl,rfl⟩)
    have h2':(0:Int) < (ns.length:Int):=of_decide_eq_true h2
    have m0:0≤k * 7 % (ns.length:Int):=Int.emod_nonneg _ (by omega)
    have m1:k * 7 % (ns.length:Int) < (ns.length:Int):=Int.emod_lt_of_pos _ h2'
    refine⟨_,rfl,_,rfl,_,_,rfl,rfl,.inl ⟨by omega,by omega⟩,_,rfl,a,_,rfl,.inl hA,_,_,rfl,rfl,?_⟩
    rw[List.length_map]
    refine⟨h2',a,_,_,_,rfl,rfl,hA,bu m0 m1,?_⟩
    walk_at "rd"
    exact .inl ⟨_,rfl,rfl⟩
   ·exact fun _ _ z=>z
 intro σ' H' q
 obtain⟨n,rfl,rfl⟩:=q.resolve_right fun z=>z
 clear q
 walk_at "rd"
 exact kk _ (Int.emod_nonneg _ (by decide)) (Int.emod_lt_of_pos _ (by decide))
theorem gI:qm ["_law_number","_law_many","_law_found","_law_k"] ["_law_number","_law_many"] (z6 xS):=⟨rfl,rfl,rfl,by decide +kernel,rfl,by decide +kernel,by decide +kernel⟩
set_option maxHeartbeats 400000 in
theorem eg (T:Txt K mg t):qr P w K mg base jy 1 t.pf t.pj ["_law_number","_law_many"] Wm:=by
 refine T.mz.fn.ok gI (fun vs H Q E h=>(by obtain⟨_,_,rfl,_⟩:=h;rfl)) (fun cdv A outer s H vs Q E hr h=>?_)
 obtain⟨n,m,rfl,n0,n1,h0,h1,k⟩:=h
 refine⟨_,(z7 (qu (i:=2) gI.nd rfl (Or.inl rfl) (jb z8) pY)
   (z7 (wZ PassesOwn.never rfl (yL rfl T.gY (z5 (pv 1) z8)) (jr (i:=3) gI.nd rfl (Or.inl rfl))
    (z7 (qu (i:=0) gI.nd rfl (Or.inl rfl) (qg qU (qg jI (qg jI (qg wo (pv 0) z9) (qg wo (qg wo z9 (pv 3)) (pv 3))) z9) z9))
   (qz (jU (vb PySem.F.plainAttrs_list PySem.F.slot_list_append PySem.F.type_list_append kj (pv 2) (z5 (qg xg (pv 0) z9) z8))))))
   (qz (qf (pv 2))))),?_⟩
 refine⟨Nat.zero_le _,?_⟩
 intro l H1 s1 hl hL
 walk_at "rd"
 refine yR (lo:=0) (n:=m.toNat) (fun i σ H2=>∃(xs:List Int) (z:Int) (kv:Option V),σ=[some (.int z),some (.int m),some (.ref l),kv]∧0≤z∧z < 2147483647∧
   qp H H2∧H2 l=some (.lst (xs.map V.int))∧xs.length=i∧∀x∈xs,0≤x∧x < 429496730)
   ⟨[],_,none,rfl,n0,n1,s1,hL,rfl,fun x hx=>by cases hx⟩ ?_ ?_
 ·rintro i σ H2 hi ⟨xs,z,kv,rfl,z0,z1,s2,hL,hx,hb⟩
  have hi':(i:Int) < 100:=by omega
  refine⟨_,rfl,_,_,rfl,rfl,.inl ⟨by omega,by omega⟩,_,rfl,_,_,rfl,rfl,.inl ⟨by decide,by decide⟩,_,rfl,_,_,rfl,rfl,.inr ⟨by omega,by omega⟩,_,_,rfl,rfl,_,_,rfl,rfl,_,_,rfl,rfl,(by show (0:Int) < 2147483647;decide),?_⟩
  have z0':0≤(z * 48271 + 7919 * (0 + (i:Int)) * (0 + (i:Int)) + 11) % 2147483647:=Int.emod_nonneg _ (by decide)
  have z1':(z * 48271 + 7919 * (0 + (i:Int)) * (0 + (i:Int)) + 11) % 2147483647 < 2147483647:=Int.emod_lt_of_pos _ (by decide)
  refine⟨_,rfl,.inl ⟨rfl,_,qM.of hL⟩,_,rfl,_,_,rfl,rfl,⟨by decide,by decide⟩,l,_,_,rfl,rfl,hL,mY (by rw[List.length_map];omega),?_⟩
  intro H3 k3 hL3
  refine⟨xs ++ [(z * 48271 + 7919 * (0 + (i:Int)) * (0 + (i:Int)) + 11) % 2147483647 / 5],(z * 48271 + 7919 * (0 + (i:Int)) * (0 + (i:Int)) + 11) % 2147483647,_,rfl,z0',z1',k3.put s2 hl,by rw[hL3,List.map_append];rfl,by rw[List.length_append,hx];rfl,fun x hx'=>?_⟩
  rcases List.mem_append.mp hx' with q | q
  ·exact hb x q
  ·have e:x=(z * 48271 + 7919 * (0 + (i:Int)) * (0 + (i:Int)) + 11) % 2147483647 / 5:=by simpa using q
   generalize (z * 48271 + 7919 * (0 + (i:Int)) * (0 + (i:Int)) + 11) % 2147483647=z' at e z0' z1'
   omega
 ·rintro σ H2 ⟨xs,z,kv,rfl,z0,z1,s2,hL,hx,hb⟩
  exact⟨_,rfl,k l H2 xs s2 hl hL (by omega) hb⟩
theorem jL:qm ["_law_cell_here","_law_many","_law_letters","_law_one","_law_two","_law_names_here","_law_n","_law_base","_law_word","_law_size","_law_head"] ["_law_cell_here","_law_many"] (z6 ky):=⟨rfl,rfl,rfl,by decide +kernel,rfl,by decide +kernel,by decide +kernel⟩
set_option maxHeartbeats 400000 in
theorem aB (T:Txt K mg t):qr P w K mg base jy 1 t.mi t.mf ["_law_cell_here","_law_many"] Wh:=by
 refine T.cO.fn.ok jL (fun vs H Q E h=>(by obtain⟨_,rfl,_⟩:=h;rfl)) (fun cdv A outer s H vs Q E hr h=>?_)
 obtain⟨c,rfl,c0,c1,k⟩:=h
 refine⟨_,(z7 (qu (i:=2) jL.nd rfl (Or.inr rfl) qk)
   (z7 (qu (i:=3) jL.nd rfl (Or.inl rfl) (qg qU (pv 0) z9))
   (z7 (qu (i:=4) jL.nd rfl (Or.inl rfl) (qg qU (qg jI (qg jI (pv 3) z9) (qg qU (qg xg (pv 0) z9) z9)) z9))
   (z7 (qu (i:=5) jL.nd rfl (Or.inl rfl) (jb z8) pY)
   (z7 (wZ PassesOwn.never rfl (yL rfl T.gY (z5 (pv 1) z8)) (jr (i:=6) jL.nd rfl (Or.inl rfl))
    (z7 (qu (i:=7) jL.nd rfl (Or.inl rfl) (qg oX (pv 6) (qg wo (qg qU (pv 6) z9) (qg qU (qg xg (pv 0) z9) z9))))
   (z7 (oW (i:=8) (osc:=z6 ky) (N:=["_law_cell_here","_law_many","_law_letters","_law_one","_law_two","_law_names_here","_law_n","_law_base","_law_word","_law_size","_law_head"]) (names:=["_law_letters","_law_cell_here"]) (qD:=[2,0]) rfl rfl rfl jL.nd ⟨rfl,by decide +kernel,by decide +kernel,by decide +kernel,rfl,rfl,by decide +kernel,by decide +kernel⟩ rfl rfl (yL rfl T.gY (z5 z9 z8)) (fun _ _ _=>(qe oj (pv 1) (qg qU (qg jI (qg xg (qg xg (pv 2) z9) (qg jI (pv 0) z9)) (qg wo (pv 0) (pv 0))) z9) (fun _ _=>rfl))))
   (z7 (gc (qe oj qk (qg qU (qg jI (qg wo (pv 7) z9) (qg xg (pv 0) z9)) z9) (fun _ _=>rfl)) (gd (pv 8) (pv 3) tN))
   (z7 (gc (qe oj (pv 2) (qg qU (qg jI (qg xg (pv 0) z9) (qg xg (pv 7) z9)) z9) (fun _ _=>rfl)) (gd (pv 8) (pv 4) tN))
   (z7 (qu (i:=9) jL.nd rfl (Or.inl rfl) (qg oX (qg jI (qg jI z9 (qg qU (qg xg (pv 0) (qg jI (pv 7) z9)) z9)) (pv 6)) (pv 7)))
   (z7 (qu (i:=10) jL.nd rfl (Or.inl rfl) qk)
   (z7 (PS.join (qF (PW.pt (lR (qt xj (qg qU (qg xg (pv 0) z9) z9) z9 (qV _)) (rm (qt tI (qg qU (pv 6) z9) z9 (qV _)))))
    (z7 (qu (i:=10) jL.nd rfl (Or.inl rfl) (qe (qw (K:=K) rfl) (jb (z5 qk (z5 qk (z5 qk (z5 qk (z5 qk (z5 qk (z5 qk (z5 qk z8))))))))) (qg qU (qg xg (pv 0) z9) z9) (fun _ _=>rfl)))
   (qz (qu (i:=9) jL.nd rfl (Or.inl rfl) (qg oX (qg jI z9 (pv 6)) (pv 7))))) ql))
   (qz (jU (vb PySem.F.plainAttrs_list PySem.F.slot_list_append PySem.F.type_list_append kj (pv 5) (z5 (qg jZ (pv 10) (vb PySem.F.plainAttrs_str PySem.F.slot_str_join PySem.F.type_str_join (cx (K:=K) rfl) qk (z5 (x5 (xA (K:=K) rfl) (pv 8) gN (xJ (pv 9))) z8))) z8))))))))))))
   (qz (qf (pv 5)))))))),?_⟩
 have hs:(Str.ofString "fgjkqvxz").length=8:=Wq.1
 have hl:(Str.ofString "abcdefghijklmnopqrstuvwxyz").length=26:=rg.1
 have o3:=Y7 c
 walk_at "rd"
 intro l H1 s1 hl1 e1
 walk_at "rd"
 refine yR (lo:=0) (n:=(80:Int).toNat) (fun i σ H'=>(∃(v6 v7 v8 v9 v10:Option V),σ=[some (.int c),some (.int 80),some (.str (Str.ofString "abcdefghijklmnopqrstuvwxyz")),some (.int (cK c)),some (.int (sr c)),some (.ref l),v6,v7,v8,v9,v10]∧qp H H'∧H' l=some (.lst (((List.range i).map fun j:Nat=>eI c j).map V.str)))∨False)
  (.inl ⟨_,_,_,_,_,rfl,s1,e1⟩) ?_ ?_
 ·intro i σ H2 hi q
  obtain⟨v6,v7,v8,v9,v10,rfl,s2,e2⟩:=q.resolve_right fun z=>z
  clear q
  have hi80:i < 80:=hi
  have hb:=@Zd c (i:Int)
  have hz:=pG c (i:Int)
  rw[Int.zero_add]
  walk_at "rd"
  show Zh _ _ _ [some (.int c),some (.int 80),some (.str (Str.ofString "abcdefghijklmnopqrstuvwxyz")),some (.int (cK c)),some (.int (sr c)),some (.ref l),some (.int (i:Int)),some (.int (bT c i)),v8,v9,v10] _ _
  refine rH aL (fun j _ v=>v=.str ⟨#[dt (c / 7 / ((j:Int) + 1) + (j:Int) * j)]⟩) (qv (by decide +kernel)) ?_ ?_
  ·intro j y H' Q' hy s' kk
   have hj:j < 8:=by
    have:=(List.getElem?_eq_some_iff.mp hy).1
    simpa using this
   have hy':y=V.int (j:Int):=by
    rw[List.getElem?_map,List.getElem?_range (show j < (8:Int).toNat from hj)] at hy
    rw[←Option.some.inj hy]
    show V.int (0 + (j:Int))=_
    rw[Int.zero_add]
   subst hy'
   have b0:0≤(c / 7 / ((j:Int) + 1) + (j:Int) * j) % 26:=Int.emod_nonneg _ (by decide)
   have b1:(c / 7 / ((j:Int) + 1) + (j:Int) * j) % 26 < 26:=Int.emod_lt_of_pos _ (by decide)
   walk_at "rd"
   exact kk _ _ (qp.refl _) rfl
  intro D H3 ys s3 hD e3 hlen hp
  obtain rfl:=VM (c:=c) (ys:=ys) (by rw[hlen];simp) fun j v hj hv=>hp j _ v (by rw[List.getElem?_map,List.getElem?_range (show j < (8:Int).toNat from hj)];rfl) hv
  clear hp hlen
  have b0:0≤(bT c i * 3 + c / 17) % 8:=Int.emod_nonneg _ (by decide)
  have b1:(bT c i * 3 + c / 17) % 8 < 8:=Int.emod_lt_of_pos _ (by decide)
  have b2:0≤(c / 11 + bT c i / 8) % 26:=Int.emod_nonneg _ (by decide)
  have b3:(c / 11 + bT c i / 8) % 26 < 26:=Int.emod_lt_of_pos _ (by decide)
  have hDn:H2 D=none:=hD
  have hneD:l≠D:=qx e2 hD
  show jN 8 (V.ref D) [some (.int c),some (.int 80),some (.str (Str.ofString "abcdefghijklmnopqrstuvwxyz")),some (.int (cK c)),some (.int (sr c)),some (.ref l),some (.int (i:Int)),some (.int (bT c i)),v8,v9,v10] _ _
  walk_at "rd"
  refine⟨D,_,_,_,rfl,rfl,e3,JP (by omega) (by unfold Wl;simp;omega),?_⟩
  intro H4 k4 e4
  have e4':H4 D=some (.lst ((((Wl c).set (cK c).toNat (aA ((bT c i * 3 + c / 17) % 8))).map fun c=>(⟨#[c]⟩:Str)).map V.str)):=by
   rw[e4,show (Str.ofString "fgjkqvxz").cps.toList=Ks from Wq.2]
   exact congrArg (fun z=>some (HO.lst z)) (eB (Wl c) _ (aA ((bT c i * 3 + c / 17) % 8)))
  clear e4
  walk_at "rd"
  refine⟨D,_,_,_,rfl,rfl,e4',JP (by omega) (by unfold Wl;simp;omega),?_⟩
  intro H5 k5 e5
  have e5':H5 D=some (.lst (((iy c (bT c i)).map fun c=>(⟨#[c]⟩:Str)).map V.str)):=by
   rw[e5]
   exact congrArg (fun z=>some (HO.lst z)) (eB ((Wl c).set (cK c).toNat (aA ((bT c i * 3 + c / 17) % 8))) _ (dt (c / 11 + bT c i / 8)))
  clear e5
  have s25:qp H2 H5:=k5.put (k4.put s3 hD) hD
  have e25:H5 l=some (.lst (((List.range i).map fun j:Nat=>eI c j).map V.str)):=s25 _ _ e2
  walk_at "rd"
  refine⟨fun σ' H'=>(∃(z:Int) (hd:Str),σ'=[some (.int c),some (.int 80),some (.str (Str.ofString "abcdefghijklmnopqrstuvwxyz")),some (.int (cK c)),some (.int (sr c)),some (.ref l),some (.int (i:Int)),some (.int (bT c i)),some (.ref D),some (.int z),some (.str hd)]∧z=sX c i∧hd=ZQ c i∧qp H5 H')∨False,?_,?_⟩
  ·have n0:¬JG c i→(3 + c / (bT c i + 13) % 5 + (i:Int) - bT c i)=sX c i∧("" : Str)=ZQ c i:=fun q=>⟨by unfold sX;rw[if_neg q],by unfold ZQ;rw[if_neg q]⟩
   walk_at "rd"
   refine jm (fun h1=>?_) (fun h1=>.inl ⟨_,_,rfl,(n0 fun z=>h1 (rS z.1)).1,(n0 fun z=>h1 (rS z.1)).2,qp.refl _⟩)
   walk_at "rd"
   refine jm (fun h2=>?_) (fun h2=>.inl ⟨_,_,rfl,(n0 fun z=>h2 (decide_eq_true z.2)).1,(n0 fun z=>h2 (decide_eq_true z.2)).2,qp.refl _⟩)
   have q:JG c i:=⟨tP h1,of_decide_eq_true h2⟩
   walk_at "rd"
   intro lh H6 s6 hlh e6
   have e6':H6 lh=some (.lst (uy.map V.str)):=e6
   clear e6
   have m0:0≤c / 72 % 8:=Int.emod_nonneg _ (by decide)
   have m1:c / 72 % 8 < 8:=Int.emod_lt_of_pos _ (by decide)
   have hk8:uy.length=8:=rfl
   walk_at "rd"
   exact .inl ⟨_,_,rfl,by unfold sX;rw[if_pos q],by unfold ZQ;rw[if_pos q];rfl,s6⟩
  intro σ' H6 q
  obtain⟨z,hd,rfl,rfl,rfl,s6⟩:=q.resolve_right fun z=>z
  clear q
  have e26:=s6 _ _ e25
  have e6':=s6 _ _ e5'
  walk_at "rd"
  intro lw H7 s7 hlw e7
  have e7':H7 lw=some (.lst ((((iy c (bT c i)).take (sX c i).toNat).map fun c=>(⟨#[c]⟩:Str)).map V.str)):=by
   rw[List.map_take,←iF V.str,Int.toNat_of_nonneg (by omega)]
   exact e7
  clear e7
  have hjl:=eh ((iy c (bT c i)).take (sX c i).toNat)
  refine⟨_,lw,_,rfl,rfl,qM.of e7',?_,?_⟩
  ·rw[hjl,List.length_map,ua,show ((Str.ofString "" : Str).length)=0 from by decide +kernel]
   omega
  have hn:=vG (Xv c (i:Int))
  have hj:=Vv c (i:Int)
  have hlen:(ZQ c i).length + (Txt.join (Str.ofString "") (((iy c (bT c i)).take (sX c i).toNat).map fun c=>(⟨#[c]⟩:Str))).length≤8:=by
   rw[←jD]
   exact hj▸hn.2.1
  refine⟨_,_,rfl,rfl,qv (by omega),?_⟩
  refine⟨l,_,_,rfl,rfl,s7 _ _ e26,qv (by simp;omega),?_⟩
  intro H8 k8 e8
  refine .inl ⟨_,_,_,_,_,rfl,k8.put (((s2.trans s25).trans s6).trans s7) hl1,?_⟩
  rw[e8,Vw,List.map_append,←hj]
  rfl
 ·intro σ H2 q
  obtain⟨v6,v7,v8,v9,v10,rfl,s2,e2⟩:=q.resolve_right fun z=>z
  walk_at "rd"
  exact k l H2 s2 hl1 e2
end
theorem u7 {α:Type} (f:α→V) (xs:List α) (n m:Nat) (h:n + m≤xs.length):uv (xs.map f) (some (n:Int)) (some ((n + m:Nat):Int))=((xs.drop n).take m).map f:=by
 unfold uv
 rw[HT.rQ,HT.rQ,List.length_map,Nat.min_eq_left (show n≤xs.length by omega),Nat.min_eq_left (show n + m≤xs.length from h),←List.map_drop,←List.map_take,Nat.add_sub_cancel_left]
theorem Hy {α:Type} (L:List α) {n0 n1 n2:Nat} (h0:n0≤4) (h1:n1≤6) (h2:n2≤12):(L.take n0 ++ (L.drop 4).take n1 ++ (L.drop 10).take n2).Sublist (L.take 22):=by
 have tk:∀(M:List α) {a b:Nat},a≤b→(M.take a).Sublist (M.take b):=fun M a b h=>by
  have:=List.take_sublist a (M.take b)
  rwa [List.take_take,Nat.min_eq_left h] at this
 have e:L.take 22=L.take 4 ++ (L.drop 4).take 6 ++ (L.drop 10).take 12:=by
  rw[show (22:Nat)=4 + 18 from rfl,List.take_add,show (18:Nat)=6 + 12 from rfl,List.take_add,List.drop_drop,List.append_assoc]
 rw[e]
 exact((tk L h0).append (tk (L.drop 4) h1)).append (tk (L.drop 10) h2)
structure B6 (c:Int) (ps as:List Str) (rms:List (Str × Str)):Prop where
 hd:Zb ps as rms
 wd:∀x∈ps ++ as ++ rms.map (·.2),x∈(NZ c).take 28
noncomputable def nW (H:Hp) (p:Addr) (c:Int) (ps as:List Str) (rms:List (Str × Str)):Prop:=∃lp la lr ln ll vs,H p=some (.tup [.ref lp,.ref la,.ref lr,.ref ln,.ref ll])∧H lp=some (.lst (ps.map V.str))∧H la=some (.lst (as.map V.str))∧H lr=some (.lst vs)∧H ln=some (.lst ((NZ c).map V.str))∧Paired (vc H) vs rms
theorem vc.G7 {H H':Hp} {v:V} {mn:Str × Str} (h:vc H v mn) (s:qp H H'):vc H' v mn:=by
 obtain⟨p,e,h⟩:=h
 exact⟨p,e,s _ _ h⟩
theorem nW.same {H H':Hp} {p:Addr} {c:Int} {ps as:List Str} {rms:List (Str × Str)} (h:nW H p c ps as rms) (s:qp H H'):nW H' p c ps as rms:=by
 obtain⟨lp,la,lr,ln,ll,vs,h1,h2,h3,h4,h5,h6⟩:=h
 exact⟨lp,la,lr,ln,ll,vs,s _ _ h1,s _ _ h2,s _ _ h3,s _ _ h4,s _ _ h5,Paired.imp' (fun _ _ z=>z.G7 s) h6⟩
noncomputable def Ww (K:PySem.W.Frag):Sp:=fun vs H Q _=>∃(a:Addr) (ns:List Int),vs=[.ref a]∧qM K H a (ns.map V.int)∧∀c ps as rms p H',B6 c ps as rms→qp H H'→H p=none→nW H' p c ps as rms→Q (.ref p) H'
noncomputable def Yz:List Str:=["calm","sore","calm","sore","end"]
theorem W9:∀j < 5,Yz.getD j ""∈jk:=by decide +kernel
theorem KQ:("calm" : Str)∈jk:=by decide +kernel
section
variable {P:Program} {w:World} {K:PySem.W.Frag} {mg:Str→Option Value} {base:Heap} {t:jf}
seal NZ
theorem jM:qm ["_law_script","_law_cell_here","_law_names_here","_law_rooms","_law_k","_law_mark","_law_parties","_law_acts","_law_labels"] ["_law_script"] (z6 xR):=⟨rfl,rfl,rfl,by decide +kernel,rfl,by decide +kernel,by decide +kernel⟩
set_option maxHeartbeats 400000 in
theorem ez (T:Txt K mg t):qr P w K mg base jy 2 t.pb t.pz ["_law_script"] (Ww K):=by
 have G_w_cell:qr P w K mg base jy 1 t.fj t.p9 ["_law_script","_law_k"] (XD K):=(tO T).mono (by decide)
 have G_w_names:qr P w K mg base jy 1 t.mi t.mf ["_law_cell_here","_law_many"] Wh:=(aB T).mono (by decide)
 refine T.f9.fn.ok jM (fun vs H Q E h=>(by obtain⟨_,_,rfl,_⟩:=h;rfl)) (fun cdv A outer s H vs Q E hr h=>?_)
 obtain⟨a,ns,rfl,hA,k⟩:=h
 refine⟨_,(z7 (qu (i:=1) jM.nd rfl (Or.inl rfl) (qi G_w_cell hr rfl T.kY.mg T.kY.fn.kp T.kY.bd .nil qK (z5 (pv 0) (z5 z9 z8))))
   (z7 (qu (i:=2) jM.nd rfl (Or.inl rfl) (qi G_w_names hr rfl T.cO.mg T.cO.fn.kp T.cO.bd .nil qK (z5 (qi G_w_cell hr rfl T.kY.mg T.kY.fn.kp T.kY.bd .nil qK (z5 (pv 0) (z5 z9 z8))) (z5 z9 z8))))
   (z7 (qu (i:=3) jM.nd rfl (Or.inl rfl) (jb z8) pY)
   (z7 (wZ PassesOwn.never rfl (yL rfl T.gY (z5 (qg jI z9 (qg qU (qg xg (pv 1) z9) z9)) z8)) (jr (i:=4) jM.nd rfl (Or.inl rfl))
    (z7 (qu (i:=5) jM.nd rfl (Or.inl rfl) (qe (qw (K:=K) rfl) (jb (z5 qk (z5 qk (z5 qk (z5 qk (z5 qk z8)))))) (qg qU (qg xg (qi G_w_cell hr rfl T.kY.mg T.kY.fn.kp T.kY.bd .nil qK (z5 (pv 0) (z5 z9 z8))) (qg jI (pv 4) z9)) z9) (fun _ _=>rfl)))
   (z7 (PS.join (qF (PW.pt (lR (qt xj (pv 4) z9 (qV _)) (lR (qt xj (pv 5) qk (qV _)) (rm (qt tI (qg qU (qg xg (pv 1) z9) z9) z9 (qV _))))))
    (qz (qu (i:=5) jM.nd rfl (Or.inl rfl) qk)) ql))
   (qz (jU (vb PySem.F.plainAttrs_list PySem.F.slot_list_append PySem.F.type_list_append kj (pv 3) (z5 (vz (z5 (pv 5) (z5 (qe (qw (K:=K) rfl) (pv 2) (qg jI z9 (pv 4)) (fun _ _=>rfl)) z8))) z8)))))))
   (z7 (qu (i:=6) jM.nd rfl (Or.inl rfl) (x5 (xA (K:=K) rfl) (pv 2) (xJ z9) (xJ (qg jI z9 (qg qU (pv 1) z9)))))
   (z7 (qu (i:=7) jM.nd rfl (Or.inl rfl) (x5 (xA (K:=K) rfl) (pv 2) (xJ z9) (xJ (qg jI z9 (qg qU (qg xg (pv 1) z9) z9)))))
   (z7 (qu (i:=8) jM.nd rfl (Or.inl rfl) (x5 (xA (K:=K) rfl) (pv 2) (xJ z9) gN))
   (z7 (PS.join (qF (qt xj (qg qU (qg xg (pv 1) z9) z9) z9 (qV _))
    (qz (qu (i:=8) jM.nd rfl (Or.inl rfl) (qg dZ (qg dZ (qg dZ (pv 7) (pv 6)) (x5 (xA (K:=K) rfl) (pv 2) (xJ z9) (xJ z9))) (pv 8)))) ql))
   (qz (qf (vz (z5 (pv 6) (z5 (pv 7) (z5 (pv 3) (z5 (pv 2) (z5 (pv 8) z8)))))))))))))))),?_⟩
 walk_at "rd"
 refine⟨a,0,ns,rfl,hA,by decide,by decide,fun cell c0 c1=>?_⟩
 have m0a:0≤cell % 4:=Int.emod_nonneg _ (by decide)
 have m0b:cell % 4 < 4:=Int.emod_lt_of_pos _ (by decide)
 have m1a:0≤cell / 4 % 6:=Int.emod_nonneg _ (by decide)
 have m1b:cell / 4 % 6 < 6:=Int.emod_lt_of_pos _ (by decide)
 have m2a:0≤cell / 24 % 12:=Int.emod_nonneg _ (by decide)
 have m2b:cell / 24 % 12 < 12:=Int.emod_lt_of_pos _ (by decide)
 obtain⟨n0,en0⟩:=Int.eq_ofNat_of_zero_le (show 0≤1 + cell % 4 by omega)
 obtain⟨n1,en1⟩:=Int.eq_ofNat_of_zero_le (show 0≤1 + cell / 4 % 6 by omega)
 obtain⟨n2,en2⟩:=Int.eq_ofNat_of_zero_le (show 0≤1 + cell / 24 % 12 by omega)
 walk_at "rd"
 refine⟨a,1,ns,rfl,hA,by decide,by decide,fun c d0 d1=>?_⟩
 refine⟨c,rfl,d0,d1,fun ln H1 s1 hln e1=>?_⟩
 have hN:=nY c
 have hA1:=s1.seq hA
 walk_at "rd"
 intro lr H2 s2 hlr e2
 have ne1:ln≠lr:=qx e1 hlr
 have hlr0:H lr=none:=s1.free hlr
 have ent:(1 + cell / 24 % 12).toNat=n2:=by omega
 show jN 3 (V.ref lr) [some (.ref a),some (.int cell),some (.ref ln),none,none,none,none,none,none] _ _
 walk_at "rd"
 refine yR (lo:=0) (n:=(1 + cell / 24 % 12).toNat) (fun i σ H'=>(∃(vs:List V) (rms:List (Str × Str)) (v4 v5:Option V),σ=[some (.ref a),some (.int cell),some (.ref ln),some (.ref lr),v4,v5,none,none,none]∧qp H H'∧H' lr=some (.lst vs)∧H' ln=some (.lst ((NZ c).map V.str))∧Paired (vc H') vs rms∧(∀mn∈rms,uT mn)∧rms.map (·.2)=((NZ c).drop 10).take i)∨False)
  (.inl ⟨[],[],none,none,rfl,s1.trans s2,e2,s2 _ _ e1,.nil,fun _ z=>(by cases z),rfl⟩) ?_ ?_
 ·intro i σ H4 hi q
  obtain⟨vs,rms,v4,v5,rfl,s4,e4,n4,hP,h4,g4⟩:=q.resolve_right fun z=>z
  clear q
  rw[ent] at hi
  have hA4:=s4.seq hA
  have hlen:rms.length=i:=by have:=congrArg List.length g4;rw[List.length_map,List.length_take,List.length_drop,hN] at this;omega
  have ei:(NZ c).getD (10 + (i:Int)).toNat (Str.ofString "")=eI c ((10 + i:Nat):Int):=by
   rw[show (10 + (i:Int)).toNat=10 + i by omega];exact Jj c (by omega)
  have gi:((NZ c).drop 10).take (i + 1)=((NZ c).drop 10).take i ++ [eI c ((10 + i:Nat):Int)]:=by
   rw[List.take_succ,List.getElem?_drop]
   have:=Jj c (i:=10 + i) (by omega)
   rw[List.getD_eq_getElem?_getD,List.getElem?_eq_getElem (show 10 + i < (NZ c).length by omega)] at this
   rw[List.getElem?_eq_getElem (show 10 + i < (NZ c).length by omega)]
   exact congrArg (fun z=>_ ++ [z]) this
  rw[Int.zero_add]
  walk_at "rd"
  intro l8 H8 s8 hl8 e8
  have e8':H8 l8=some (.lst (Yz.map V.str)):=e8
  clear e8
  have hA8:=s8.seq hA4
  refine⟨_,rfl,a,2,ns,rfl,hA8,by decide,by decide,fun c2 x0 x1=>?_⟩
  have y0:0≤c2 / ((i:Int) + 1) % 5:=Int.emod_nonneg _ (by decide)
  have y1:c2 / ((i:Int) + 1) % 5 < 5:=Int.emod_lt_of_pos _ (by decide)
  have hm:=W9 (c2 / ((i:Int) + 1) % 5).toNat (by omega)
  have h5:Yz.length=5:=rfl
  walk_at "rd"
  refine⟨fun σ' H'=>(∃mk:Str,σ'=[some (.ref a),some (.int cell),some (.ref ln),some (.ref lr),some (.int (i:Int)),some (.str mk),none,none,none]∧mk∈jk∧H'=H8)∨False,?_,?_⟩
  ·walk_at "rd"
   refine jm (fun h1=>?_) (fun h1=>.inl ⟨_,rfl,hm,rfl⟩)
   walk_at "rd"
   refine jm (fun h2=>?_) (fun h2=>.inl ⟨_,rfl,hm,rfl⟩)
   walk_at "rd"
   refine jm (fun h3=>?_) (fun h3=>.inl ⟨_,rfl,hm,rfl⟩)
   walk_at "rd"
   exact .inl ⟨_,rfl,KQ,rfl⟩
  intro σ' H' q
  obtain⟨mk,rfl,hmk,rfl⟩:=q.resolve_right fun z=>z
  clear q hm
  have n8:=s8 _ _ n4
  walk_at "rd"
  rw[ei]
  intro q H9 s9 hq e9
  have e49:=s9 _ _ (s8 _ _ e4)
  refine⟨lr,_,_,rfl,rfl,e49,qv (by have:=Paired.length hP;omega),?_⟩
  intro H10 k10 e10
  have hP9:Paired (vc H9) (vs ++ [.ref q]) (rms ++ [(mk,eI c ((10 + i:Nat):Int))]):=Paired.snoc (Paired.imp' (fun _ _ z=>z.same (s8.trans s9)) hP) ⟨q,rfl,e9⟩
  refine .inl ⟨_,_,_,_,rfl,k10.put ((s4.trans s8).trans s9) hlr0,e10,k10.look (s9 _ _ n8) ne1,Paired.imp' (fun _ _ z=>z.keeps k10 e49) hP9,fun mn hmn=>?_,?_⟩
  ·(rcases List.mem_append.mp hmn with q | q)
   ·exact h4 mn q
   ·rw[List.mem_singleton.mp q];exact⟨hmk,Xv c _⟩
  ·rw[List.map_append,g4,gi];rfl
 intro σ H4 q
 obtain⟨vs,rms,v4,v5,rfl,s4,e4,n4,hP,h4,g4⟩:=q.resolve_right fun z=>z
 clear q
 rw[ent] at g4
 have hlen:rms.length=n2:=by have:=congrArg List.length g4;rw[List.length_map,List.length_take,List.length_drop,hN] at this;omega
 walk_at "rd"
 intro lp H5 s5 hlp e5
 have e5':H5 lp=some (.lst (((NZ c).take n0).map V.str)):=by
  have:=u7 V.str (NZ c) 0 n0 (by omega)
  rw[List.drop_zero,Nat.zero_add,show ((0:Nat):Int)=0 from rfl] at this
  rw[←this,←en0]
  exact e5
 clear e5
 have n5:=s5 _ _ n4
 walk_at "rd"
 intro la H6 s6 hla e6
 have e6':H6 la=some (.lst ((((NZ c).drop 4).take n1).map V.str)):=by
  rw[←u7 V.str (NZ c) 4 n1 (by omega),show ((4 + n1:Nat):Int)=5 + cell / 4 % 6 by omega]
  exact e6
 clear e6
 have n6:=s6 _ _ n5
 walk_at "rd"
 intro ll H7 s7 hll e7
 have e7':H7 ll=some (.lst (((NZ c).drop 32).map V.str)):=by
  rw[←ba V.str (NZ c) 32]
  exact e7
 clear e7
 have n7:=s7 _ _ n6
 have p7:=s7 _ _ (s6 _ _ e5')
 have a7:=s7 _ _ e6'
 have lps:((NZ c).take n0).length=n0:=by rw[List.length_take,hN];omega
 have las:(((NZ c).drop 4).take n1).length=n1:=by rw[List.length_take,List.length_drop,hN];omega
 have l2s:(((NZ c).drop 10).take 2).length=2:=by rw[List.length_take,List.length_drop,hN];rfl
 have lls:((NZ c).drop 32).length=48:=by rw[List.length_drop,hN]
 show ∃M:L2.St→Hp→Prop,_∧_
 refine⟨fun σ' H'=>(∃l8:Addr,σ'=[some (.ref a),some (.int cell),some (.ref ln),some (.ref lr),v4,v5,some (.ref lp),some (.ref la),some (.ref l8)]∧qp H7 H')∨False,?_,?_⟩
 ·walk_at "rd"
  refine jm (fun h1=>?_) (fun h1=>.inl ⟨_,rfl,qp.refl _⟩)
  walk_at "rd"
  refine⟨la,lp,_,_,rfl,rfl,a7,p7,qv (by rw[List.length_map,List.length_map];omega),?_⟩
  intro b1 H8 s8 hb1 f1
  have n8:=s8 _ _ n7
  walk_at "rd"
  intro b2 H9 s9 hb2 f2
  have f2':H9 b2=some (.lst ((((NZ c).drop 10).take 2).map V.str)):=by
   rw[←u7 V.str (NZ c) 10 2 (by omega)]
   exact f2
  clear f2
  refine⟨b1,b2,_,_,rfl,rfl,s9 _ _ f1,f2',qv (by rw[List.length_append,List.length_map,List.length_map,List.length_map];omega),?_⟩
  intro b3 H10 s10 hb3 f3
  walk_at "rd"
  refine⟨b3,ll,_,_,rfl,rfl,f3,s10 _ _ (s9 _ _ (s8 _ _ e7')),qv (by rw[List.length_append,List.length_append,List.length_map,List.length_map,List.length_map,List.length_map];omega),?_⟩
  intro b4 H11 s11 hb4 f4
  exact .inl ⟨_,rfl,((s8.trans s9).trans s10).trans s11⟩
 intro σ' H8 q
 obtain⟨l8,rfl,s8⟩:=q.resolve_right fun z=>z
 clear q
 walk_at "rd"
 intro q H9 s9 hq e9
 have s48:qp H4 H8:=((s5.trans s6).trans s7).trans s8
 have hsub:=Hy (NZ c) (n0:=n0) (n1:=n1) (n2:=n2) (by omega) (by omega) (by omega)
 have mem:∀x∈(NZ c).take n0 ++ ((NZ c).drop 4).take n1 ++ ((NZ c).drop 10).take n2,x∈(NZ c).take 28:=fun x hx=>by
  have h1:=hsub.subset hx
  have:(NZ c).take 22=((NZ c).take 28).take 22:=by rw[List.take_take];rfl
  rw[this] at h1
  exact List.mem_of_mem_take h1
 have ok:∀x∈(NZ c).take 28,qX x=true:=fun x hx=>ir c x (List.mem_of_mem_take hx)
 refine k c _ _ rms q H9 ⟨⟨by omega,by omega,by omega,by omega,by omega,by omega,fun x hx=>ok x (mem x (List.mem_append_left _ (List.mem_append_left _ hx))),fun x hx=>ok x (mem x (List.mem_append_left _ (List.mem_append_right _ hx))),h4,?_⟩,?_⟩ ((s4.trans s48).trans s9) ((s4.trans s48).free hq) ⟨lp,la,lr,ln,l8,vs,e9,s9 _ _ (s8 _ _ p7),s9 _ _ (s8 _ _ a7),s9 _ _ (s48 _ _ e4),s9 _ _ (s8 _ _ n7),Paired.imp' (fun _ _ z=>z.same (s48.trans s9)) hP⟩
 ·rw[g4]
  exact hsub.nodup ((List.take_sublist _ _).nodup (Gj c))
 ·rw[g4]
  exact mem
end
noncomputable abbrev Ow:=List (Str × Str)
noncomputable def dS (o:Ow):List (Key × V):=o.map fun p=>(.inr p.1,V.str p.2)
noncomputable def lk (o:Ow) (z:Str):Option Str:=(o.find? fun p=>decide (p.1=z)).map (·.2)
noncomputable def pu (o:Ow) (n b:Str):Ow:=if (o.any fun p=>decide (p.1=n))=true then o.map (fun p=>if p.1=n then (p.1,b) else p) else o ++ [(n,b)]
noncomputable def mv (kd:Str→Str) (o:Ow):Ow:=o.map fun p=>(p.1,kd p.2)
noncomputable def oH (o:Ow) (l:Ow):Ow:=l.foldl (fun o p=>pu o p.1 p.2) o
theorem rj {a b:Str}:((Sum.inr a:Key)=Sum.inr b)=(a=b):=propext ⟨fun h=>Sum.inr.inj h,fun h=>by rw[h]⟩
theorem hU (o:Ow):(dS o).length=o.length:=List.length_map ..
theorem yJ (z:Str):∀o:Ow,vB (dS o) (.inr z)=(lk o z).map V.str
 | []=>rfl
 | p :: o=>by
  have ih:=yJ z o
  unfold vB dS lk at *
  rw[List.map_cons,List.find?_cons,List.find?_cons]
  simp only[rj]
  by_cases h:p.1=z
  ·simp [h]
  ·simp only[decide_eq_false h]
   exact ih
theorem fM (o:Ow) (n b:Str):putK (dS o) (.inr n) (.str b)=dS (pu o n b):=by
 unfold putK pu dS
 rw[List.any_map]
 have e:(fun kv:Key × V=>decide (kv.1=Sum.inr n)) ∘ (fun p:Str × Str=>((Sum.inr p.1:Key),V.str p.2))=fun p:Str × Str=>decide (p.1=n):=by
  funext p
  simp only[Function.comp,rj]
 rw[e]
 split
 ·rw[List.map_map,List.map_map]
  (refine List.map_congr_left fun p _=>?_)
  simp only[Function.comp,rj]
  by_cases h:p.1=n
  ·simp [h]
  ·simp [h]
 ·rw[List.map_append];rfl
theorem ZF (kd:Str→Str) (z:Str):∀o:Ow,lk (mv kd o) z=(lk o z).map kd
 | []=>rfl
 | p :: o=>by
  have ih:=ZF kd z o
  unfold lk mv at *
  rw[List.map_cons,List.find?_cons,List.find?_cons]
  by_cases h:p.1=z
  ·simp [h]
  ·simp only[decide_eq_false h]
   exact ih
theorem GC (kd:Str→Str) (o:Ow) (n b:Str):pu (mv kd o) n (kd b)=mv kd (pu o n b):=by
 unfold pu mv
 rw[List.any_map]
 have e:(fun p:Str × Str=>decide (p.1=n)) ∘ (fun p:Str × Str=>(p.1,kd p.2))=fun p:Str × Str=>decide (p.1=n):=rfl
 rw[e]
 split
 ·rw[List.map_map,List.map_map]
  (refine List.map_congr_left fun p _=>?_)
  simp only[Function.comp]
  by_cases h:p.1=n
  ·simp [h]
  ·simp [h]
 ·rw[List.map_append];rfl
theorem oG (o:Ow) (n b:Str):(pu o n b).map (·.1)=if n∈o.map (·.1) then o.map (·.1) else o.map (·.1) ++ [n]:=by
 have e:(o.any fun p=>decide (p.1=n))=decide (n∈o.map (·.1)):=by
  induction o with
  | nil=>rfl
  | cons p o ih=>
   rw[List.any_cons,ih,List.map_cons]
   by_cases h:p.1=n
   ·simp [h]
   ·have h':¬n=p.1:=fun z=>h z.symm
    simp [h,h']
 unfold pu
 rw[e]
 by_cases h:n∈o.map (·.1)
 ·rw[if_pos (decide_eq_true h),if_pos h,List.map_map]
  (refine List.map_congr_left fun p _=>?_)
  simp only[Function.comp]
  split<;>rfl
 ·rw[if_neg (by rw[decide_eq_false h];exact Bool.false_ne_true),if_neg h,List.map_append]
  rfl
theorem Yt {o:Ow} {n b:Str} (h:n∉o.map (·.1)):pu o n b=o ++ [(n,b)]:=by
 unfold pu
 rw[if_neg]
 intro z
 obtain⟨p,hp,q⟩:=List.any_eq_true.mp z
 exact h (List.mem_map.mpr ⟨p,hp,of_decide_eq_true q⟩)
theorem Ys (o:Ow) (n b:Str):(pu o n b).length≤o.length + 1:=by
 unfold pu
 split
 ·rw[List.length_map];omega
 ·(rw[List.length_append];simp)
theorem GJ (o:Ow) (n b z:Str):lk (pu o n b) z=if z=n then some b else lk o z:=by
 have h:=Kx (dS o) (.inr n) (.inr z) (V.str b)
 rw[fM,yJ,yJ] at h
 simp only[rj] at h
 by_cases e:z=n
 ·rw[if_pos e] at h ⊢
  cases q:lk (pu o n b) z with
  | none=>rw[q] at h;cases h
  | some y=>rw[q] at h;exact congrArg some (V.str.inj (Option.some.inj h))
 ·rw[if_neg e] at h ⊢
  cases q:lk (pu o n b) z with
  | none=>
   cases q2:lk o z with
   | none=>rfl
   | some y=>rw[q,q2] at h;cases h
  | some y=>
   cases q2:lk o z with
   | none=>rw[q,q2] at h;cases h
   | some y2=>rw[q,q2] at h;exact congrArg some (V.str.inj (Option.some.inj h))
theorem vd (o l:Ow) (p:Str × Str):oH o (l ++ [p])=pu (oH o l) p.1 p.2:=by unfold oH;rw[List.foldl_append];rfl
theorem wJ:∀(l o:Ow),(oH o l).length≤o.length + l.length
 | [],o=>by show o.length≤_;omega
 | p :: l,o=>by
  have h1:=wJ l (pu o p.1 p.2)
  have h2:=Ys o p.1 p.2
  show (oH (pu o p.1 p.2) l).length≤_
  rw[List.length_cons]
  omega
theorem cH:∀(l o:Ow),((o ++ l).map (·.1)).Nodup→oH o l=o ++ l
 | [],o,_=>by rw[List.append_nil];rfl
 | p :: l,o,h=>by
  have e:o ++ p :: l=(o ++ [(p.1,p.2)]) ++ l:=by simp
  have hn:p.1∉o.map (·.1):=fun z=>by
   rw[List.map_append,List.map_cons] at h
   exact(List.nodup_append.mp h).2.2 _ z _ List.mem_cons_self rfl
  show oH (pu o p.1 p.2) l=_
  rw[Yt hn,cH l _ (by rw[←e];exact h),e]
theorem GQ {o:Ow} {n b:Str} (h:lk o n=some b):(n,b)∈o:=by
 unfold lk at h
 cases q:o.find? fun p=>decide (p.1=n) with
 | none=>rw[q] at h;cases h
 | some p=>
  rw[q] at h
  have h1:=List.mem_of_find?_eq_some q
  have h2:=@List.find?_some _ (fun p:Str × Str=>decide (p.1=n)) p o q
  have h2:p.1=n:=of_decide_eq_true h2
  obtain⟨x,y⟩:=p
  cases h
  cases h2
  exact h1
theorem JT:∀{o:Ow} {p:Str × Str},(o.map (·.1)).Nodup→p∈o→lk o p.1=some p.2
 | q :: o,p,hn,h=>by
  (rw[List.map_cons,List.nodup_cons] at hn)
  unfold lk
  rw[List.find?_cons]
  (rcases List.mem_cons.mp h with rfl | h)
  ·simp
  ·have hne:¬q.1=p.1:=fun z=>hn.1 (by rw[z];exact List.mem_map_of_mem h)
   simp only[decide_eq_false hne]
   exact JT hn.2 h
noncomputable def pF (ps as:List Str) (rms:List (Str × Str)):Ow:=ps.map (fun n=>(n,("party" : Str))) ++ as.map (fun n=>(n,("act" : Str))) ++ rms.map fun mn=>(mn.2,mn.1)
noncomputable def Kr (ps as:List Str) (rms:List (Str × Str)) (z:Str):Str:=(lk (pF ps as rms) z).getD ""
noncomputable def mQ (o:Ow):Ow:=o.map fun p=>(p.1,p.1)
theorem bW (ps as:List Str) (rms:List (Str × Str)):(pF ps as rms).map (·.1)=ps ++ as ++ rms.map (·.2):=by
 unfold pF
 rw[List.map_append,List.map_append,List.map_map,List.map_map,List.map_map]
 have e:∀(l:List Str) (x:Str),l.map ((fun p:Str × Str=>p.1) ∘ fun n=>(n,x))=l:=fun l x=>by
  rw[show ((fun p:Str × Str=>p.1) ∘ fun n:Str=>(n,x))=id from rfl,List.map_id]
 rw[e,e]
 rfl
theorem d8 (o:Ow):(mQ o).map (·.1)=o.map (·.1):=by unfold mQ;rw[List.map_map];rfl
theorem KI {ps as:List Str} {rms:List (Str × Str)} (h:Zb ps as rms):(pF ps as rms).length≤22:=by
 have:=h.p2;have:=h.a2;have:=h.r2
 unfold pF
 rw[List.length_append,List.length_append,List.length_map,List.length_map,List.length_map]
 omega
theorem K8 {ps as:List Str} {rms:List (Str × Str)} (h:Zb ps as rms):mv (Kr ps as rms) (mQ (pF ps as rms))=pF ps as rms:=by
 have hn:((pF ps as rms).map (·.1)).Nodup:=by rw[bW];exact h.nd
 unfold mv mQ
 rw[List.map_map]
 have:(pF ps as rms).map ((fun p:Str × Str=>(p.1,Kr ps as rms p.2)) ∘ fun p:Str × Str=>(p.1,p.1))=(pF ps as rms).map id:=List.map_congr_left fun p hp=>by
  show (p.1,Kr ps as rms p.1)=p
  unfold Kr
  rw[JT hn hp]
  rfl
 rw[this,List.map_id]
theorem Paired.HV {α β:Type} {F:α→β→Prop} {a:α}:∀{xs:List α} {ys:List β} {i:Nat},Paired F xs ys→xs[i]?=some a→∃b,ys[i]?=some b∧F a b
 | _ :: _,_ :: _,0,.cons h t,e=>by cases e;exact⟨_,rfl,h⟩
 | _ :: _,_ :: _,i + 1,.cons h t,e=>Paired.HV (i:=i) t e
theorem take_snoc {α:Type} {xs:List α} {i:Nat} {b:α} (h:xs[i]?=some b):xs.take (i + 1)=xs.take i ++ [b]:=by
 rw[List.take_succ,h];rfl
theorem rV {l:List Str} {i:Nat} {y:V} (h:(l.map V.str)[i]?=some y):∃n,l[i]?=some n∧y=.str n:=by
 rw[List.getElem?_map] at h
 cases q:l[i]? with
 | none=>rw[q] at h;cases h
 | some n=>rw[q] at h;exact⟨n,rfl,(Option.some.inj h).symm⟩
noncomputable def XO:Sp:=fun vs H Q _=>∃(p:Addr) (c:Int) (ps as:List Str) (rms:List (Str × Str)),vs=[.ref p]∧nW H p c ps as rms∧Zb ps as rms∧∀d H',qp H H'→H d=none→H' d=some (.dK (dS (pF ps as rms)))→Q (.ref d) H'
noncomputable def Wf:Sp:=fun vs H Q _=>∃(p:Addr) (c:Int) (ps as:List Str) (rms:List (Str × Str)),vs=[.ref p]∧nW H p c ps as rms∧Zb ps as rms∧∀d H',qp H H'→H d=none→H' d=some (.dK (dS (mQ (pF ps as rms))))→Q (.ref d) H'
section
variable {P:Program} {w:World} {K:PySem.W.Frag} {mg:Str→Option Value} {base:Heap} {t:jf}
theorem wO:qm ["_law_header_here","_law_kinds_here","_law_name","_law_mark"] ["_law_header_here"] (z6 kS):=⟨rfl,rfl,rfl,by decide +kernel,rfl,by decide +kernel,by decide +kernel⟩
set_option maxHeartbeats 400000 in
theorem lF (T:Txt K mg t):qr P w K mg base jy 1 t.bJ t.bZ ["_law_header_here"] XO:=by
 refine T.g6.fn.ok wO (fun vs H Q E h=>(by obtain⟨_,_,_,_,_,rfl,_⟩:=h;rfl)) (fun cdv A outer s H vs Q E hr h=>?_)
 obtain⟨p,c,ps,as,rms,rfl,hH,hd,k⟩:=h
 refine⟨_,(z7 (qu (i:=1) wO.nd rfl (Or.inl rfl) cZ)
   (z7 (wZ PassesOwn.never rfl (vm (K:=K) rfl (qe (kM (K:=K) rfl) (pv 0) z9 (fun _ _=>rfl))) (jr (i:=2) wO.nd rfl (Or.inl rfl))
    (qz (gc qk (gd (pv 1) (pv 2) (kC (xE hr))))))
   (z7 (wZ PassesOwn.never rfl (vm (K:=K) rfl (qe (kM (K:=K) rfl) (pv 0) z9 (fun _ _=>rfl))) (jr (i:=2) wO.nd rfl (Or.inl rfl))
    (qz (gc qk (gd (pv 1) (pv 2) (kC (xE hr))))))
   (z7 (wZ PassesOwn.never rfl (vm (K:=K) rfl (qe (kM (K:=K) rfl) (pv 0) z9 (fun _ _=>rfl))) (cW (K:=K) rfl rfl (vf (jr (i:=3) wO.nd rfl (Or.inl rfl)) (vf (jr (i:=2) wO.nd rfl (Or.inl rfl)) cY)))
    (qz (gc (pv 3) (gd (pv 1) (pv 2) (kC (xE hr))))))
   (qz (qf (pv 1))))))),?_⟩
 obtain⟨lp,la,lr,ln,ll,vs,ep,elp,ela,elr,eln,hR⟩:=hH
 have p2:=hd.p2;have a2:=hd.a2;have r2:=hd.r2
 have hvl:vs.length=rms.length:=Paired.length hR
 walk_at "rd"
 intro d H1 s1 hd1 e1
 have ep1:=s1 _ _ ep
 show jN 1 (V.ref d) [some (.ref p),none,none,none] _ _
 walk_at "rd"
 refine yd (K:=K) (a:=lp) (xs:=ps.map V.str) (fun i σ H'=>(∃v2:Option V,σ=[some (.ref p),some (.ref d),v2,none]∧qp H H'∧H' d=some (.dK (dS (oH [] ((ps.take i).map fun n=>(n,("party" : Str)))))))∨False)
  (.inl ⟨none,rfl,s1,e1⟩) (fun i σ H' _ q=>(by obtain⟨_,_,z,_⟩:=q.resolve_right (fun z=>z);exact qM.of (z _ _ elp))) ?_ ?_
 ·intro i y σ H2 hi q
  obtain⟨v2,rfl,s2,e2⟩:=q.resolve_right fun z=>z
  clear q
  obtain⟨n,hn,rfl⟩:=rV hi
  have hlen:=wJ ((ps.take i).map fun n=>(n,("party" : Str))) []
  rw[List.length_map,List.length_take] at hlen
  walk_at "rd"
  refine⟨d,_,.inr n,rfl,rfl,e2,qv (by rw[hU];simp only[List.length_nil] at hlen;omega),?_⟩
  intro H3 k3 e3
  refine .inl ⟨_,rfl,k3.put s2 hd1,?_⟩
  rw[e3,take_snoc hn,List.map_append,List.map_cons,List.map_nil,vd,fM]
 intro σ H2 q
 obtain⟨v2,rfl,s2,e2⟩:=q.resolve_right fun z=>z
 clear q
 rw[List.length_map,List.take_length] at e2
 have ep2:=s2 _ _ ep
 walk_at "rd"
 refine yd (K:=K) (a:=la) (xs:=as.map V.str) (fun i σ H'=>(∃v2:Option V,σ=[some (.ref p),some (.ref d),v2,none]∧qp H H'∧H' d=some (.dK (dS (oH [] (ps.map (fun n=>(n,("party" : Str))) ++ (as.take i).map fun n=>(n,("act" : Str)))))))∨False)
  (.inl ⟨v2,rfl,s2,by rw[List.take_zero,List.map_nil,List.append_nil];exact e2⟩) (fun i σ H' _ q=>(by obtain⟨_,_,z,_⟩:=q.resolve_right (fun z=>z);exact qM.of (z _ _ ela))) ?_ ?_
 ·intro i y σ H3 hi q
  obtain⟨v2,rfl,s3,e3⟩:=q.resolve_right fun z=>z
  clear q
  obtain⟨n,hn,rfl⟩:=rV hi
  have hlen:=wJ (ps.map (fun n=>(n,("party" : Str))) ++ (as.take i).map fun n=>(n,("act" : Str))) []
  rw[List.length_append,List.length_map,List.length_map,List.length_take] at hlen
  walk_at "rd"
  refine⟨d,_,.inr n,rfl,rfl,e3,qv (by rw[hU];simp only[List.length_nil] at hlen;omega),?_⟩
  intro H4 k4 e4
  refine .inl ⟨_,rfl,k4.put s3 hd1,?_⟩
  rw[e4,take_snoc hn,List.map_append,List.map_cons,List.map_nil,←List.append_assoc,vd,fM]
 intro σ H3 q
 obtain⟨v2,rfl,s3,e3⟩:=q.resolve_right fun z=>z
 clear q
 rw[List.length_map,List.take_length] at e3
 have ep3:=s3 _ _ ep
 walk_at "rd"
 refine yd (K:=K) (a:=lr) (xs:=vs) (fun i σ H'=>(∃v2 v3:Option V,σ=[some (.ref p),some (.ref d),v2,v3]∧qp H H'∧H' d=some (.dK (dS (oH [] (ps.map (fun n=>(n,("party" : Str))) ++ as.map (fun n=>(n,("act" : Str))) ++ (rms.take i).map fun mn=>(mn.2,mn.1))))))∨False)
  (.inl ⟨v2,none,rfl,s3,by rw[List.take_zero,List.map_nil,List.append_nil];exact e3⟩) (fun i σ H' _ q=>(by obtain⟨_,_,_,z,_⟩:=q.resolve_right (fun z=>z);exact qM.of (z _ _ elr))) ?_ ?_
 ·intro i y σ H4 hi q
  obtain⟨v2,v3,rfl,s4,e4⟩:=q.resolve_right fun z=>z
  clear q
  obtain⟨mn,hmn,q,rfl,eq⟩:=Paired.HV hR hi
  have eq4:=s4 _ _ eq
  have hlen:=wJ (ps.map (fun n=>(n,("party" : Str))) ++ as.map (fun n=>(n,("act" : Str))) ++ (rms.take i).map fun mn=>(mn.2,mn.1)) []
  rw[List.length_append,List.length_append,List.length_map,List.length_map,List.length_map,List.length_take] at hlen
  refine⟨q,_,rfl,g9.of eq4,rfl,_,_,rfl,_,_,rfl,rfl,?_⟩
  walk_at "rd"
  refine⟨d,_,.inr mn.2,rfl,rfl,e4,qv (by rw[hU];simp only[List.length_nil] at hlen;omega),?_⟩
  intro H5 k5 e5
  refine .inl ⟨_,_,rfl,k5.put s4 hd1,?_⟩
  rw[e5,take_snoc hmn,List.map_append,List.map_cons,List.map_nil,←List.append_assoc,vd,fM]
 intro σ H4 q
 obtain⟨v2,v3,rfl,s4,e4⟩:=q.resolve_right fun z=>z
 clear q
 rw[hvl,List.take_length] at e4
 walk_at "rd"
 refine k d H4 s4 hd1 ?_
 have:=cH (pF ps as rms) [] (by rw[List.nil_append,bW];exact hd.nd)
 rw[List.nil_append] at this
 rw[←this]
 exact e4
theorem dH:qm ["_law_header_here","_law_scope_here","_law_name"] ["_law_header_here"] (z6 kO):=⟨rfl,rfl,rfl,by decide +kernel,rfl,by decide +kernel,by decide +kernel⟩
set_option maxHeartbeats 400000 in
theorem aP (T:Txt K mg t):qr P w K mg base jy 2 t.mZ t.mm ["_law_header_here"] Wf:=by
 have G_w_kinds:qr P w K mg base jy 1 t.bJ t.bZ ["_law_header_here"] XO:=(lF T).mono (by decide)
 refine T.g7.fn.ok dH (fun vs H Q E h=>(by obtain⟨_,_,_,_,_,rfl,_⟩:=h;rfl)) (fun cdv A outer s H vs Q E hr h=>?_)
 obtain⟨p,c,ps,as,rms,rfl,hH,hd,k⟩:=h
 refine⟨_,(z7 (qu (i:=1) dH.nd rfl (Or.inl rfl) cZ)
   (z7 (Vf PassesOwn.never rfl (qi G_w_kinds hr rfl T.g6.mg T.g6.fn.kp T.g6.bd .nil qK (z5 (pv 0) z8)) (jr (i:=2) dH.nd rfl (Or.inl rfl))
    (qz (gc (pv 2) (gd (pv 1) (pv 2) (kC (xE hr))))))
   (qz (qf (pv 1))))),?_⟩
 have hk:=KI hd
 walk_at "rd"
 intro d H1 s1 hd1 e1
 show jN 1 (V.ref d) [some (.ref p),none,none] _ _
 walk_at "rd"
 refine⟨p,c,ps,as,rms,rfl,hH.same s1,hd,fun d2 H2 s2 hd2 e2=>?_⟩
 have hne:d≠d2:=qx e1 hd2
 refine⟨d2,_,rfl,e2,fun i σ H'=>(∃v2:Option V,σ=[some (.ref p),some (.ref d),v2]∧qp H H'∧H' d=some (.dK (dS (oH [] (mQ ((pF ps as rms).take i))))))∨False,.inl ⟨none,rfl,aj (s1.trans s2) (s1.free hd2),by rw[dI hne];exact s2 _ _ e1⟩,?_,?_⟩
 ·intro i kk v σ H3 hi q
  obtain⟨v2,rfl,s3,e3⟩:=q.resolve_right fun z=>z
  clear q
  obtain⟨pr,hpr,hpq⟩:∃pr,(pF ps as rms)[i]?=some pr∧kk=.inr pr.1:=by
   unfold dS at hi
   rw[List.getElem?_map] at hi
   cases q:(pF ps as rms)[i]? with
   | none=>rw[q] at hi;cases hi
   | some pr=>rw[q] at hi;exact⟨pr,rfl,(congrArg Prod.fst (Option.some.inj hi)).symm⟩
  subst hpq
  have hlen:=wJ (mQ ((pF ps as rms).take i)) []
  rw[show (mQ ((pF ps as rms).take i)).length=((pF ps as rms).take i).length from List.length_map ..,List.length_take] at hlen
  walk_at "rd"
  refine⟨d,_,.inr pr.1,rfl,rfl,e3,qv (by rw[hU];simp only[List.length_nil] at hlen;omega),?_⟩
  intro H4 k4 e4
  refine .inl ⟨_,rfl,k4.put s3 hd1,?_⟩
  rw[e4,take_snoc hpr]
  unfold mQ
  rw[List.map_append,List.map_cons,List.map_nil,vd]
  exact congrArg (fun z=>some (HO.dK z)) (fM _ _ _)
 intro σ H3 q
 obtain⟨v2,rfl,s3,e3⟩:=q.resolve_right fun z=>z
 clear q
 rw[hU,List.take_length] at e3
 walk_at "rd"
 refine k d H3 s3 hd1 ?_
 have:=cH (mQ (pF ps as rms)) [] (by rw[List.nil_append,d8,bW];exact hd.nd)
 rw[List.nil_append] at this
 rw[←this]
 exact e3
end
theorem gg {u:Str} (h:qX u=true):u.length≤8:=(vG h).2.1
structure B5 (ps as:List Str) (rms:List (Str × Str)):Prop where
 p1:1≤ps.length
 p2:ps.length≤4
 a1:1≤as.length
 a2:as.length≤6
 r2:rms.length≤12
 pn:∀x∈ps,qX x=true
 an:∀x∈as,qX x=true
 rn:∀mn∈rms,uT mn
theorem Zb.w {ps as:List Str} {rms:List (Str × Str)} (h:Zb ps as rms):B5 ps as rms:=⟨h.p1,h.p2,h.a1,h.a2,h.r2,h.pn,h.an,h.rn⟩
theorem iL {x y:Str} (e:y.cps.toList=x.cps.toList ++ [32]) {ns:List Str} (h:ns≠[]):y ++ Txt.join " " ns=gX (x :: ns):=by
 obtain⟨a,r,rfl⟩:=List.exists_cons_of_ne_nil h
 refine gE ?_
 unfold gX
 rw[cps_append,join_eq,join_eq,xF,e]
 simp
theorem JS:("parties " : Str).cps.toList=("parties" : Str).cps.toList ++ [32]∧("acts " : Str).cps.toList=("acts" : Str).cps.toList ++ [32]∧(" " : Str).cps.toList=[32]∧("sore " : Str).cps.toList=("sore" : Str).cps.toList ++ [32]:=by decide +kernel
theorem YX (m n:Str):m ++ Str.ofString " " ++ n=cB (m,n):=by
 refine gE ?_
 unfold cB gX
 rw[cps_append,cps_append,join_eq,xF,L2.join_one,JS.2.2.1]
 simp
theorem Vt (ps as:List Str) (rms:List (Str × Str)) (mn:Str × Str):rowsOf ps as (rms ++ [mn]) []=rowsOf ps as rms [] ++ [cB mn]:=by unfold rowsOf;simp
theorem cP {ps as:List Str} {rms:List (Str × Str)} {evs:List Ew}:(rowsOf ps as rms evs).length=2 + rms.length + evs.length:=by unfold rowsOf;simp only[List.length_cons,List.length_append,List.length_map];omega
theorem mV:∀{ws:List Str},(∀x∈ws,59∉x.cps.toList)→59∉(gX ws).cps.toList
 | [],_=>by unfold gX;decide +kernel
 | [x],h=>by unfold gX;rw[join_eq,L2.join_one];exact h x (by simp)
 | x :: y :: r,h=>by
  have ih:=mV (ws:=y :: r) fun z hz=>h z (List.mem_cons_of_mem _ hz)
  unfold gX at ih ⊢
  rw[join_eq] at ih ⊢
  rw[xF]
  intro hm
  (rcases List.mem_append.mp hm with hm | hm)
  ·exact h x (by simp) hm
  ·rcases List.mem_cons.mp hm with hm | hm
   ·cases hm
   ·exact ih hm
theorem qO {x:Str} (h:qX x=true):59∉x.cps.toList:=fun hc=>by
 have h':=h
 unfold qX at h'
 rw[Bool.and_eq_true] at h'
 have:¬59∈qP.cps.toList:=by decide +kernel
 exact this ((sJ h'.1).2.2 59 hc)
theorem X6 {n:Nat}:∀{xs:List Str},(∀x∈xs,x.length≤n)→(xs.map (·.length)).sum≤n * xs.length
 | [],_=>by simp
 | x :: r,h=>by
  have h1:=h x (by simp)
  have h2:=X6 (n:=n) (xs:=r) fun y hy=>h y (List.mem_cons_of_mem _ hy)
  rw[List.map_cons,List.sum_cons,List.length_cons,Nat.mul_add]
  omega
theorem cz:∀x∈lits,59∉x.cps.toList∧x.length≤8:=by decide +kernel
theorem tG:∀x∈(["done","parties","acts"]:List Str),59∉x.cps.toList∧x.length≤8:=by decide +kernel
theorem Xx {n:Int} (h1:1≤n):59∉(Str.ofString (toString n)).cps.toList:=by
 obtain⟨m,rfl⟩:=Int.eq_ofNat_of_zero_le (show 0≤n by omega)
 have e:=PySem.W.KIN.signs_num m
 intro hc
 rw[e] at hc
 obtain⟨ch,hch,e2⟩:=List.mem_map.mp hc
 have:=Nat.isDigit_of_mem_toDigits (b:=10) (by decide) (by decide) hch
 simp [Char.isDigit] at this
 have h2:ch.toNat≤57:=this.2
 have e3:ch.toNat=59:=e2
 omega
theorem YA {u:Str} (h:Kw u):59∉u.cps.toList:=by
 rcases h with h | rfl
 ·exact qO h
 ·exact(cz _ (by simp [lits])).1
theorem lf {x:Str} (h:x∈lits):59∉x.cps.toList:=(cz x h).1
theorem Ew.free {e:Ew} (h:e.ok):∀x∈e.ws,59∉x.cps.toList:=by
 intro x hx
 cases e with
 | lt a b=>
  simp only[Ew.ws,List.mem_cons,List.not_mem_nil,or_false] at hx
  rcases hx with rfl | rfl | rfl | rfl
  ·exact lf (by simp [lits])
  ·exact qO h.1
  ·exact lf (by simp [lits])
  ·exact qO h.2
 | mu l w a n r=>
  simp only[Ew.ws,List.mem_cons,List.not_mem_nil,or_false] at hx
  rcases hx with rfl | rfl | rfl | rfl | rfl | rfl | rfl | rfl
  ·exact qO h.1
  ·exact qO h.2.1
  ·exact lf (by simp [lits])
  ·exact qO h.2.2.1
  ·exact lf (by simp [lits])
  ·exact Xx h.2.2.2.1
  ·exact lf (by simp [lits])
  ·exact qO h.2.2.2.2.2
 | my l w a=>
  simp only[Ew.ws,List.mem_cons,List.not_mem_nil,or_false] at hx
  rcases hx with rfl | rfl | rfl | rfl
  ·exact qO h.1
  ·exact YA h.2.1
  ·exact lf (by simp [lits])
  ·exact qO h.2.2
 | bn l w a r=>
  simp only[Ew.ws,List.mem_cons,List.not_mem_nil,or_false] at hx
  rcases hx with rfl | rfl | rfl | rfl | rfl | rfl | rfl
  ·exact qO h.1
  ·exact YA h.2.1
  ·exact lf (by simp [lits])
  ·exact lf (by simp [lits])
  ·exact qO h.2.2.1
  ·exact lf (by simp [lits])
  ·exact qO h.2.2.2
 | pw l w a r=>
  simp only[Ew.ws,List.mem_cons,List.not_mem_nil,or_false] at hx
  rcases hx with rfl | rfl | rfl | rfl | rfl | rfl
  ·exact qO h.1
  ·exact YA h.2.1
  ·exact lf (by simp [lits])
  ·exact qO h.2.2.1
  ·exact lf (by simp [lits])
  ·exact qO h.2.2.2
 | dn=>
  simp only[Ew.ws,List.mem_cons,List.not_mem_nil,or_false] at hx
  rw[hx];exact(tG _ (by simp)).1
 | pt n rs=>
  cases rs with
  | nil=>
   simp only[Ew.ws,List.mem_cons,List.not_mem_nil,or_false] at hx
   rcases hx with rfl | rfl
   ·exact lf (by simp [lits])
   ·exact qO h.1
  | cons y rs=>
   simp only[Ew.ws] at hx
   (rcases List.mem_cons.mp hx with rfl | hx)
   ·exact lf (by simp [lits])
   (rcases List.mem_cons.mp hx with rfl | hx)
   ·exact qO h.1
   (rcases List.mem_cons.mp hx with rfl | hx)
   ·exact lf (by simp [lits])
   ·exact qO (h.2.1 x hx)
structure Qy (x:Str):Prop where
 fr:59∉x.cps.toList
 sh:x.length≤180
theorem oB {ws:List Str} (h:∀x∈ws,x.length≤8) (hl:ws.length≤20):(gX ws).length≤180:=by
 have h1:(gX ws).length≤eD ws:=rZ ws
 have h2:=sd (n:=8) (ws:=ws) h
 omega
theorem Ew.Ba {e:Ew} (h:e.ok):Qy e.row:=by
 refine⟨mV (Ew.free h),?_⟩
 have h1:e.row.length≤eD e.ws:=rZ e.ws
 by_cases q:e.ws.length≤8
 ·have h2:=sd (n:=20) (ws:=e.ws) fun x hx=>(Ew.wk h x hx).2
  omega
 cases e with
 | pt n rs=>
  cases rs with
  | nil=>exact absurd (by simp [Ew.ws]) q
  | cons y rs=>
   refine oB (ws:=(Ew.pt n (y :: rs)).ws) (fun x hx=>?_) ?_
   ·simp only[Ew.ws] at hx
    (rcases List.mem_cons.mp hx with rfl | hx)
    ·exact(cz _ (by simp [lits])).2
    (rcases List.mem_cons.mp hx with rfl | hx)
    ·exact gg h.1
    (rcases List.mem_cons.mp hx with rfl | hx)
    ·exact(cz _ (by simp [lits])).2
    ·exact gg (h.2.1 x hx)
   ·have:=h.2.2
    simp only[Ew.ws,List.length_cons] at this ⊢
    omega
 | dn=>exact absurd (by simp [Ew.ws]) q
 | lt a b=>exact absurd (by simp [Ew.ws]) q
 | mu l w a n r=>exact absurd (by simp [Ew.ws]) q
 | my l w a=>exact absurd (by simp [Ew.ws]) q
 | bn l w a r=>exact absurd (by simp [Ew.ws]) q
 | pw l w a r=>exact absurd (by simp [Ew.ws]) q
theorem ZJ {x:Str} {ns:List Str} (hx:x∈(["done","parties","acts"]:List Str)) (hn:∀y∈ns,qX y=true) (hl:ns.length≤6):Qy (gX (x :: ns)):=by
 have key:∀y∈x :: ns,59∉y.cps.toList∧y.length≤8:=fun y hy=>by
  (rcases List.mem_cons.mp hy with rfl | hy)
  ·exact tG _ hx
  ·exact⟨qO (hn y hy),gg (hn y hy)⟩
 exact⟨mV fun y hy=>(key y hy).1,oB (fun y hy=>(key y hy).2) (by simp only[List.length_cons];omega)⟩
theorem G6 {mn:Str × Str} (h:uT mn):Qy (cB mn):=by
 have key:∀y∈[mn.1,mn.2],59∉y.cps.toList∧y.length≤8:=fun y hy=>by
  simp only[List.mem_cons,List.not_mem_nil,or_false] at hy
  rcases hy with rfl | rfl
  ·have:=oy _ h.1;exact⟨this.2.1,by omega⟩
  ·exact⟨qO h.2,gg h.2⟩
 exact⟨mV fun y hy=>(key y hy).1,oB (fun y hy=>(key y hy).2) (by simp)⟩
theorem oP {ps as:List Str} {rms:List (Str × Str)} {evs:List Ew} (h:B5 ps as rms) (he:∀e∈evs,e.ok):∀x∈rowsOf ps as rms evs,Qy x:=by
 intro x hx
 unfold rowsOf at hx
 (rcases List.mem_cons.mp hx with rfl | hx)
 ·exact ZJ (by simp) h.pn (by have:=h.p2;omega)
 (rcases List.mem_cons.mp hx with rfl | hx)
 ·exact ZJ (by simp) h.an (by have:=h.a2;omega)
 (rcases List.mem_append.mp hx with hx | hx)
 ·obtain⟨mn,hmn,rfl⟩:=List.mem_map.mp hx
  exact G6 (h.rn mn hmn)
 ·obtain⟨e,hee,rfl⟩:=List.mem_map.mp hx
  exact Ew.Ba (he e hee)
theorem rN {rows:List Str} (hF:∀x∈rows,Qy x) (hl:rows.length≤150):(rows.map (·.length)).sum + rows.length * (Str.ofString "; ").length≤30000:=by
 have h1:=X6 (n:=180) (xs:=rows) fun x hx=>(hF x hx).sh
 have h2:(Str.ofString "; ").length=2:=by decide +kernel
 rw[h2]
 omega
theorem KS {P:Program} {w:World} {K:PySem.W.Frag} {mg:Str→Option Value} {base:Heap} {k:Nat} {f:Addr} {fd:FuncData} {ps:List Str} {sp sp':Sp} (F:qr P w K mg base (pT P w) k f fd ps sp) (h:∀vs H Q E,sp' vs H Q E→sp vs H Q E0):qr P w K mg base jy k f fd ps sp':=
 ⟨fun vs H Q E q=>F.len vs H Q E0 (h vs H Q E q),fun A outer s H args us vs Q E hr he hb hv hs=>codeAny_mono (F.run A outer s H args us vs Q E0 hr he hb hv (h _ _ _ _ hs)) fun r s' q=>by
  cases r with
  | error e=>obtain⟨_,_,_,_,_,_,_,_,_,_,_,z⟩:=q;exact z.elim
  | ok fl=>cases fl<;>exact q⟩
noncomputable def X2 (t:jf):Sp:=fun vs H Q _=>∃(rows:List Str) (ps as:List Str) (rms:List (Str × Str)) (rw:Rw),vs=[.str (Txt.join (Str.ofString "; ") rows)]∧rows≠[]∧(∀x∈rows,Qy x)∧rows.length≤150∧fU rows=.ok (ps,as,rms,rw)∧∀p H',qp H H'→bU t H' p ps as rms rw→Q (.ref p) H'
theorem YZ {t:jf} {vs:List V} {H:Hp} {Q:VK} {E:XK} (h:X2 t vs H Q E):X3 t vs H Q E0:=by
 obtain⟨rows,ps,as,rms,rw,rfl,hne,hF,hl,hr,k⟩:=h
 have hsp:Txt.split (Txt.join (Str.ofString "; ") rows) (Str.ofString "; ")=rows:=QR hne fun x hx=>(hF x hx).fr
 have h1:=rN hF hl
 have h2:=rT (Str.ofString "; ") rows
 refine⟨_,rfl,by omega,by rw[hsp];exact⟨by omega,fun x hx=>Nat.le_trans (hF x hx).sh (by decide)⟩,fun n e=>?_,fun ps' as' rms' rw' p H' e s hA=>?_⟩
 ·rw[hsp,hr] at e
  cases e
 ·rw[hsp,hr] at e
  cases e
  exact k p H' s hA
section
variable {P:Program} {w:World} {K:PySem.W.Frag} {mg:Str→Option Value} {base:Heap} {t:jf}
end
noncomputable def Wd:Sp:=fun vs H Q _=>∃(p:Addr) (c:Int) (ps as:List Str) (rms:List (Str × Str)),vs=[.ref p]∧nW H p c ps as rms∧Zb ps as rms∧∀H',qp H H'→Q (.str (Txt.join (Str.ofString "; ") (rowsOf ps as rms []))) H'
section
variable {P:Program} {w:World} {K:PySem.W.Frag} {mg:Str→Option Value} {base:Heap} {t:jf}
theorem mW:qm ["_law_header_here","_law_lines","_law_mark","_law_name"] ["_law_header_here"] (z6 wW):=⟨rfl,rfl,rfl,by decide +kernel,rfl,by decide +kernel,by decide +kernel⟩
set_option maxHeartbeats 400000 in
theorem QF (T:Txt K mg t):qr P w K mg base jy 1 t.d6 t.dO ["_law_header_here"] Wd:=by
 refine T.w_text.fn.ok mW (fun vs H Q E h=>(by obtain⟨_,_,_,_,_,rfl,_⟩:=h;rfl)) (fun cdv A outer s H vs Q E hr h=>?_)
 obtain⟨p,c,ps,as,rms,rfl,hH,hd,k⟩:=h
 refine⟨_,(z7 (qu (i:=1) mW.nd rfl (Or.inl rfl) (jb (z5 (qg jZ qk (vb PySem.F.plainAttrs_str PySem.F.slot_str_join PySem.F.type_str_join (cx (K:=K) rfl) qk (z5 (qe (kM (K:=K) rfl) (pv 0) z9 (fun _ _=>rfl)) z8))) (z5 (qg jZ qk (vb PySem.F.plainAttrs_str PySem.F.slot_str_join PySem.F.type_str_join (cx (K:=K) rfl) qk (z5 (qe (kM (K:=K) rfl) (pv 0) z9 (fun _ _=>rfl)) z8))) z8))) pY)
   (z7 (wZ PassesOwn.never rfl (vm (K:=K) rfl (qe (kM (K:=K) rfl) (pv 0) z9 (fun _ _=>rfl))) (cW (K:=K) rfl rfl (vf (jr (i:=2) mW.nd rfl (Or.inl rfl)) (vf (jr (i:=3) mW.nd rfl (Or.inl rfl)) cY)))
    (qz (jU (vb PySem.F.plainAttrs_list PySem.F.slot_list_append PySem.F.type_list_append kj (pv 1) (z5 (qg jZ (qg jZ (pv 2) qk) (pv 3)) z8)))))
   (qz (qf (vb PySem.F.plainAttrs_str PySem.F.slot_str_join PySem.F.type_str_join (cx (K:=K) rfl) qk (z5 (pv 1) z8)))))),?_⟩
 have hW:=hd.w
 obtain⟨lp,la,lr,ln,ll,vs,ep,elp,ela,elr,eln,hR⟩:=hH
 have tp:=sd (n:=8) (ws:=ps) fun x hx=>(vG (hW.pn x hx)).2.1
 have ta:=sd (n:=8) (ws:=as) fun x hx=>(vG (hW.an x hx)).2.1
 have p1:=hW.p1;have p2:=hW.p2;have a1:=hW.a1;have a2:=hW.a2;have r2:=hW.r2
 have tp':(8 + 1) * ps.length≤9 * 4:=by omega
 have ta':(8 + 1) * as.length≤9 * 6:=by omega
 have j1:(Txt.join (Str.ofString " ") ps).length≤36:=by have:=rZ ps;exact Nat.le_trans this (by omega)
 have j2:(Txt.join (Str.ofString " ") as).length≤54:=by have:=rZ as;exact Nat.le_trans this (by omega)
 have w1:(Str.ofString "parties ").length=8:=by decide +kernel
 have w2:(Str.ofString "acts ").length=5:=by decide +kernel
 have np:ps≠[]:=fun z=>by rw[z] at p1;simp at p1
 have na:as≠[]:=fun z=>by rw[z] at a1;simp at a1
 have hvl:vs.length=rms.length:=Paired.length hR
 walk_at "rd"
 refine⟨_,lp,ps,rfl,rfl,qM.of elp,by rw[Z2];omega,?_⟩
 refine⟨_,_,rfl,rfl,qv (by omega),?_⟩
 rw[show Str.ofString "parties " ++ Txt.join (Str.ofString " ") ps=gX ("parties" :: ps) from iL JS.1 np]
 walk_at "rd"
 refine⟨_,la,as,rfl,rfl,qM.of ela,by rw[Z2];omega,?_⟩
 refine⟨_,_,rfl,rfl,qv (by omega),?_⟩
 rw[show Str.ofString "acts " ++ Txt.join (Str.ofString " ") as=gX ("acts" :: as) from iL JS.2.1 na]
 refine⟨qv (by show 2≤1000;decide),?_⟩
 intro lq H1 s1 hlq e1
 have ep1:=s1 _ _ ep
 show jN 1 (V.ref lq) [some (.ref p),none,none,none] _ _
 walk_at "rd"
 refine yd (K:=K) (a:=lr) (xs:=vs) (fun i σ H'=>(∃v2 v3:Option V,σ=[some (.ref p),some (.ref lq),v2,v3]∧qp H H'∧H' lq=some (.lst ((rowsOf ps as (rms.take i) []).map V.str)))∨False)
  (.inl ⟨none,none,rfl,s1,e1⟩) (fun i σ H' _ q=>(by obtain⟨_,_,_,z,_⟩:=q.resolve_right (fun z=>z);exact qM.of (z _ _ elr))) ?_ ?_
 ·intro i y σ H2 hi q
  obtain⟨v3,v4,rfl,s2,e2⟩:=q.resolve_right fun z=>z
  clear q
  obtain⟨mn,hmn,q,rfl,eq⟩:=Paired.HV hR hi
  have hi':i < rms.length:=(List.getElem?_eq_some_iff.mp hmn).1
  have hm:=hW.rn mn (List.mem_of_getElem? hmn)
  have eq2:=s2 _ _ eq
  have g1:=(oy _ hm.1).2.2.1
  have g2:=(vG hm.2).2.1
  refine⟨q,_,rfl,g9.of eq2,rfl,_,_,rfl,_,_,rfl,rfl,?_⟩
  walk_at "rd"
  have hrl:=@cP ps as (rms.take i) []
  refine⟨lq,_,_,rfl,rfl,e2,qv (by rw[List.length_map,hrl,List.length_take];simp only[List.length_nil];omega),?_⟩
  intro H3 k3 e3
  refine .inl ⟨_,_,rfl,k3.put s2 hlq,?_⟩
  rw[e3,YX,take_snoc hmn,Vt,List.map_append]
  rfl
 intro σ H2 q
 obtain⟨v3,v4,rfl,s2,e2⟩:=q.resolve_right fun z=>z
 clear q
 rw[hvl,List.take_length] at e2
 walk_at "rd"
 have jj:=oP (evs:=[]) hW (fun e he=>by cases he)
 have hjs:=rN jj (by rw[cP];simp only[List.length_nil];omega)
 refine⟨_,lq,_,rfl,rfl,qM.of e2,by omega,?_⟩
 exact k H2 s2
end
noncomputable def uw (pq ka ma:Addr):List (Str × V):=[("pact",.ref pq),("kinds",.ref ka),("meanings",.ref ma)]
theorem BQ:¬(("pact" : Str) = "kinds"):=by decide +kernel
theorem BJ:¬(("pact" : Str) = "meanings"):=by decide +kernel
theorem BX:¬(("kinds" : Str) = "meanings"):=by decide +kernel
theorem GO (pq ka ma:Addr):qJ "meanings" (.ref ma) (qJ "kinds" (.ref ka) (qJ "pact" (.ref pq) []))=uw pq ka ma:=by
 simp only[qJ,uw,if_neg BQ,if_neg BJ,if_neg BX]
theorem GI (pq ka ma k2:Addr):qJ "kinds" (.ref k2) (uw pq ka ma)=uw pq k2 ma:=by
 simp only[qJ,uw,if_neg BQ,if_true]
theorem GA (pq ka ma m2:Addr):qJ "meanings" (.ref m2) (uw pq ka ma)=uw pq ka m2:=by
 simp only[qJ,uw,if_neg BJ,if_neg BX,if_true]
theorem fv {a b c:Addr} {m:Str} (h1:¬m = "pact") (h2:¬m = "kinds") (h3:¬m = "meanings"):(uw a b c).lookup m=none:=(jx h1).trans ((jx h2).trans ((jx h3).trans rfl))
theorem rf {a b c:Addr}:(uw a b c).lookup ("know" : Str)=none:=fv (by decide +kernel) (by decide +kernel) (by decide +kernel)
theorem lW {a b c:Addr}:(uw a b c).lookup ("meant" : Str)=none:=fv (by decide +kernel) (by decide +kernel) (by decide +kernel)
theorem V5 {a b c:Addr}:(uw a b c).lookup ("room_for" : Str)=none:=fv (by decide +kernel) (by decide +kernel) (by decide +kernel)
inductive An where
 | told (b:Str)
 | name
 | calm
noncomputable def mA (kd:Str→Str) (o:Ow) (ws:List Str) (z:Str):An:=match lk o z with
 | none=>.name
 | some b=>if kd b∈ws then .told b else .name
noncomputable def fA (kd:Str→Str):An→An
 | .told b=>if kd b = "calm" then .calm else .told b
 | r=>r
noncomputable def uq (kd:Str→Str) (o:Ow):Nat→Str→An
 | 0,z=>if z = "any" then .told "any" else mA kd o ["party"] z
 | 1,z=>mA kd o ["act"] z
 | 2,z=>mA kd o jk z
 | _,z=>fA kd (mA kd o jk z)
noncomputable def KP (t:jf) (z:Str) (H:Hp):XK:=fun c x H'=>∃a,x=some a∧c=.ref t.jS∧qp H H'∧VL H' a t.jS [("word",.str z)]
noncomputable def WM (t:jf) (z:Str) (H:Hp):XK:=fun c x H'=>∃a,x=some a∧c=.ref t.ju∧qp H H'∧VL H' a t.ju [("word",.str z)]
theorem KP.back {t:jf} {z:Str} {H0 H:Hp} {c:Value} {o:Option Addr} {H':Hp} (h:KP t z H c o H') (s:qp H0 H):KP t z H0 c o H':=by
 obtain⟨a,h1,h2,h3,h4⟩:=h
 exact⟨a,h1,h2,s.trans h3,h4⟩
theorem WM.back {t:jf} {z:Str} {H0 H:Hp} {c:Value} {o:Option Addr} {H':Hp} (h:WM t z H c o H') (s:qp H0 H):WM t z H0 c o H':=by
 obtain⟨a,h1,h2,h3,h4⟩:=h
 exact⟨a,h1,h2,s.trans h3,h4⟩
noncomputable def eE (t:jf) (z:Str) (H:Hp) (Q:VK) (E:XK):An→Prop
 | .told b=>∀H',qp H H'→Q (.str b) H'
 | .name=>∀c o H',KP t z H c o H'→E c o H'
 | .calm=>∀c o H',WM t z H c o H'→E c o H'
theorem eE.same {t:jf} {z:Str} {H H1:Hp} {Q:VK} {E:XK} {r:An} (h:eE t z H Q E r) (s:qp H H1):eE t z H1 Q E r:=by
 cases r with
 | told b=>exact fun H' s'=>h H' (s.trans s')
 | name=>exact fun c o H' e=>h c o H' (e.back s)
 | calm=>exact fun c o H' e=>h c o H' (e.back s)
noncomputable def kr (t:jf) (H:Hp) (q dx pq ka ma:Addr) (ks ms:Ow):Prop:=H q=some (.ins t.qZ dx (uw pq ka ma))∧H ka=some (.dK (dS ks))∧H ma=some (.dK (dS ms))
theorem kr.same {t:jf} {H H':Hp} {q dx pq ka ma:Addr} {ks ms:Ow} (h:kr t H q dx pq ka ma ks ms) (s:qp H H'):kr t H' q dx pq ka ma ks ms:=⟨s _ _ h.1,s _ _ h.2.1,s _ _ h.2.2⟩
noncomputable def HL (a b:Addr) (H H':Hp):Prop:=∀x,x≠a→x≠b→H' x=H x
noncomputable def aO (t:jf):Sp:=fun vs H Q _=>∃(q dx pq ka ma:Addr) (ks ms:Ow) (n k m:Str),vs=[.ref q,.str n,.str k,.str m]∧kr t H q dx pq ka ma ks ms∧ka≠ma∧ks.length≤200∧ms.length≤200∧∀H',HL ka ma H H'→kr t H' q dx pq ka ma (pu ks n k) (pu ms n m)→Q .non H'
noncomputable def Z6 (K:PySem.W.Frag) (t:jf):Sp:=fun vs H Q E=>∃(kd:Str→Str) (q dx pq ka ma tp:Addr) (o:Ow) (z:Str) (ws:List Str),vs=[.ref q,.str z,.ref tp]∧kr t H q dx pq ka ma (mv kd o) o∧g9 K H tp (ws.map V.str)∧eE t z H Q E (mA kd o ws z)
noncomputable def cR (t:jf) (way:Nat):Sp:=fun vs H Q E=>∃(kd:Str→Str) (q dx pq ka ma:Addr) (o:Ow) (z:Str),vs=[.ref q,.str z]∧kr t H q dx pq ka ma (mv kd o) o∧eE t z H Q E (uq kd o way z)
theorem mH:∀ws:List Str,(ws.map V.str).all fk=true
 | []=>rfl
 | x :: ws=>by rw[List.map_cons,List.all_cons,mH ws];rfl
theorem i5:∀ws:List Str,ZX .non (ws.map V.str)=false
 | []=>rfl
 | x :: ws=>by
  have:=i5 ws
  unfold ZX at *
  rw[List.map_cons,List.any_cons,this]
  rfl
section
variable {P:Program} {w:World} {K:PySem.W.Frag} {mg:Str→Option Value} {base:Heap} {t:jf}
section
variable {H:Hp} {q dx pq ka ma:Addr} {ks ms:Ow}
theorem kr.f1 (T:Txt K mg t) (h:kr t H q dx pq ka ma ks ms):Qv K H (.ref q) "pact" (.ref pq):=⟨q,_,dx,_,rfl,h.1,T.qI,T.bp,jg⟩
theorem kr.f2 (T:Txt K mg t) (h:kr t H q dx pq ka ma ks ms):Qv K H (.ref q) "kinds" (.ref ka):=⟨q,_,dx,_,rfl,h.1,T.qI,T.wm,(jx fun q=>BQ (Eq.symm q)).trans jg⟩
theorem kr.f3 (T:Txt K mg t) (h:kr t H q dx pq ka ma ks ms):Qv K H (.ref q) "meanings" (.ref ma):=⟨q,_,dx,_,rfl,h.1,T.qI,T.ku,(jx fun q=>BJ (Eq.symm q)).trans ((jx fun q=>BX (Eq.symm q)).trans jg)⟩
end
theorem lI:qm ["self","word"] ["self","word"] (z6 jV):=⟨rfl,rfl,rfl,by decide +kernel,rfl,by decide +kernel,by decide +kernel⟩
set_option maxHeartbeats 400000 in
theorem fY (T:Txt K mg t):qr P w K mg base jy 1 t.kz t.vj ["self","word"] (ue K "word"):=by
 refine T.gW.fn.ok lI (fun vs H Q E h=>(by obtain⟨_,_,_,rfl,_⟩:=h;rfl)) (fun cdv A outer s H vs Q E hr h=>?_)
 obtain⟨a,C,v,rfl,c,n,e,k⟩:=h
 exact⟨_,(qz (oY (pv 0) (pv 1) rfl)),_,rfl,_,rfl,a,C,rfl,c,n,.inl ⟨e,k⟩⟩
theorem ui:qm ["self","word"] ["self","word"] (z6 jw):=⟨rfl,rfl,rfl,by decide +kernel,rfl,by decide +kernel,by decide +kernel⟩
set_option maxHeartbeats 400000 in
theorem uu (T:Txt K mg t):qr P w K mg base jy 1 t.xI t.vo ["self","word"] (ue K "word"):=by
 refine T.g8.fn.ok ui (fun vs H Q E h=>(by obtain⟨_,_,_,rfl,_⟩:=h;rfl)) (fun cdv A outer s H vs Q E hr h=>?_)
 obtain⟨a,C,v,rfl,c,n,e,k⟩:=h
 exact⟨_,(qz (oY (pv 0) (pv 1) rfl)),_,rfl,_,rfl,a,C,rfl,c,n,.inl ⟨e,k⟩⟩
theorem aU (T:Txt K mg t) {z:Str} {H:Hp} {E:XK} {X:XK} (k:∀c o H',KP t z H c o H'→E c o H') :
  ∀a,H a=none→ue K "word" (.ref a :: ([V.str z] ++ [])) (upd H a (xN a t.jS none)) (fun u H2=>u=.non∧∃a' C' d,V.ref a=.ref a'∧gQ K C'=true∧H2 a'=some (xN a' C' d)∧E (.ref C') (some a') (upd H2 a' (xO a' C' d))) X:=
 aC T.nJ T.wb T.mB.xc fun a H' s x=>k _ _ _ ⟨a,rfl,rfl,s,x⟩
theorem Ya (T:Txt K mg t) {z:Str} {H:Hp} {E:XK} {X:XK} (k:∀c o H',WM t z H c o H'→E c o H') :
  ∀a,H a=none→ue K "word" (.ref a :: ([V.str z] ++ [])) (upd H a (xN a t.ju none)) (fun u H2=>u=.non∧∃a' C' d,V.ref a=.ref a'∧gQ K C'=true∧H2 a'=some (xN a' C' d)∧E (.ref C') (some a') (upd H2 a' (xO a' C' d))) X:=
 aC T.uL T.wR T.mq.xc fun a H' s x=>k _ _ _ ⟨a,rfl,rfl,s,x⟩
theorem sO:qm ["self","name","kind","meaning"] ["self","name","kind","meaning"] (z6 j8):=⟨rfl,rfl,rfl,by decide +kernel,rfl,by decide +kernel,by decide +kernel⟩
set_option maxHeartbeats 400000 in
theorem dj (T:Txt K mg t):qr P w K mg base jy 1 t.yB t.b8 ["self","name","kind","meaning"] (aO t):=by
 refine T.bL.fn.ok sO (fun vs H Q E h=>(by obtain⟨_,_,_,_,_,_,_,_,_,_,rfl,_⟩:=h;rfl)) (fun cdv A outer s H vs Q E hr h=>?_)
 obtain⟨q,dx,pq,ka,ma,ks,ms,n,kk,m,rfl,hS,hne,l1,l2,k⟩:=h
 refine⟨_,(z7 (gc (pv 2) (gd (jh (K:=K) rfl (pv 0) rfl) (pv 1) (kC (xE hr))))
   (qz (gc (pv 3) (gd (jh (K:=K) rfl (pv 0) rfl) (pv 1) (kC (xE hr)))))),?_⟩
 walk_at "rd"
 refine⟨_,hS.f2 T,?_⟩
 walk_at "rd"
 refine⟨ka,_,.inr n,rfl,rfl,hS.2.1,qv (by rw[hU];omega),?_⟩
 intro H1 k1 e1
 rw[fM] at e1
 have hqk:q≠ka:=fun z=>by have:=hS.1;rw[z,hS.2.1] at this;cases this
 have hqm:q≠ma:=fun z=>by have:=hS.1;rw[z,hS.2.2] at this;cases this
 have hS1:kr t H1 q dx pq ka ma (pu ks n kk) ms:=⟨k1.look hS.1 hqk,e1,k1.look hS.2.2 (Ne.symm hne)⟩
 walk_at "rd"
 refine⟨_,hS1.f3 T,?_⟩
 walk_at "rd"
 refine⟨ma,_,.inr n,rfl,rfl,hS1.2.2,qv (by rw[hU];omega),?_⟩
 intro H2 k2 e2
 rw[fM] at e2
 exact k H2 (fun x h1 h2=>(k2 x h2).trans (k1 x h1)) ⟨k2.look hS1.1 hqm,k2.look hS1.2.1 hne,e2⟩
theorem lA:qm ["self","word","kinds"] ["self","word","kinds"] (z6 jY):=⟨rfl,rfl,rfl,by decide +kernel,rfl,by decide +kernel,by decide +kernel⟩
set_option maxHeartbeats 400000 in
theorem gf (T:Txt K mg t):qr P w K mg base (pT P w) 3 t.w6 t.bj ["self","word","kinds"] (Z6 K t):=by
 have M_NoName_init:qr P w K mg base jy 1 t.kz t.vj ["self","word"] (ue K "word"):=(fY T).mono (by decide)
 refine T.yg.fn.Xh lA (fun vs H Q E h=>(by obtain⟨_,_,_,_,_,_,_,_,_,_,rfl,_⟩:=h;rfl)) (fun cdv A outer s H vs Q E hr h=>?_)
 obtain⟨kd,q,dx,pq,ka,ma,tp,o,z,ws,rfl,hS,hT,k⟩:=h
 refine⟨_,(z7 (qF (qt (mK (K:=K) rfl) (vb PySem.F.plainAttrs_dict PySem.F.slot_dict_get PySem.F.type_dict_get (J5 (xE hr)) (jh (K:=K) rfl (pv 0) rfl) (z5 (pv 1) z8)) (pv 2) rfl)
    (qz (wQ yM rfl (wa T.mB M_NoName_init hr rfl T.fc T.gW.bd .nil qK (z5 (pv 1) z8)))) ql)
   (qz (qf (yk (xE hr) (jh (K:=K) rfl (pv 0) rfl) (pv 1) (fun _ _=>rfl))))),?_⟩
 walk_at "rd"
 refine⟨_,hS.f2 T,?_⟩
 refine⟨.inr (.inr (.inl ⟨rfl,.inl ⟨_,hS.2.1⟩⟩)),_,rfl,ka,_,.inr z,rfl,rfl,hS.2.1,?_⟩
 rw[yJ,ZF]
 unfold mA at k
 cases hl:lk o z with
 | none=>
  rw[hl] at k
  refine⟨_,rfl,tp,_,rfl,.inr hT,rfl,mH ws,_,rfl,?_⟩
  show if (!ZX V.non (ws.map V.str))=true then _ else _
  rw[if_pos (by rw[i5];rfl)]
  walk_at "rd"
  exact aU T k
 | some b=>
  rw[hl] at k
  refine⟨_,rfl,tp,_,rfl,.inr hT,rfl,mH ws,_,rfl,?_⟩
  show if (!ZX (V.str (kd b)) (ws.map V.str))=true then _ else _
  rw[mJ]
  by_cases hb:kd b∈ws
  ·rw[decide_eq_true hb]
   have k':eE t z H Q E (.told b):=by have:=k;dsimp only at this;rwa [if_pos hb] at this
   have hg:vq H ma (kV (.inr z)) (some (V.str b)):=by
    have:=vq.k (k:=.inr z) hS.2.2
    rw[yJ,hl] at this
    exact this
   refine oq ?_
   walk_at "rd"
   refine⟨_,hS.f3 T,_,rfl,ma,_,rfl,hg,?_⟩
   exact k' H (qp.refl _)
  ·rw[decide_eq_false hb]
   have k':eE t z H Q E .name:=by have:=k;dsimp only at this;rwa [if_neg hb] at this
   refine ug ?_
   walk_at "rd"
   exact aU T k'
theorem l7:qm ["self","word"] ["self","word"] (z6 jG):=⟨rfl,rfl,rfl,by decide +kernel,rfl,by decide +kernel,by decide +kernel⟩
set_option maxHeartbeats 400000 in
theorem lB (T:Txt K mg t):qr P w K mg base (pT P w) 4 t.yz t.bw ["self","word"] (cR t 0):=by
 refine T.p4.fn.Xh l7 (fun vs H Q E h=>(by obtain⟨_,_,_,_,_,_,_,_,rfl,_⟩:=h;rfl)) (fun cdv A outer s H vs Q E hr h=>?_)
 obtain⟨kd,q,dx,pq,ka,ma,o,z,rfl,hS,k⟩:=h
 have M1:ja P w K mg base (pT P w) 3 t.qZ "meant" (Z6 K t):=.mk' T.wy (gf T) T.yg.bd (by decide)
 refine⟨_,(z7 (qF (qt xj (pv 1) qk (qV _))
    (qz (qf qk)) ql)
   (qz (qf (yl (pU fun _ _ _ z=>z) hr (pv 0) (z5 (pv 1) (z5 (vz (z5 qk z8)) z8)))))),?_⟩
 walk_at "rd"
 have k:eE t z H Q E (if z = "any" then .told "any" else mA kd o ["party"] z):=k
 refine jm (fun h1=>?_) (fun h1=>?_)
 ·have e:z = "any":=V.str.inj (of_decide_eq_true h1)
  rw[if_pos e] at k
  walk_at "rd"
  exact k H (qp.refl _)
 ·have e:¬z = "any":=fun z=>h1 (by rw[z];exact decide_eq_true rfl)
  rw[if_neg e] at k
  walk_at "rd"
  refine⟨q,_,dx,_,rfl,hS.1,T.qI,lW,_,M1,?_⟩
  walk_at "rd"
  intro tp H1 s1 htp e1
  exact⟨kd,q,dx,pq,ka,ma,tp,o,z,["party"],rfl,hS.same s1,g9.of e1,k.same s1⟩
theorem sN:qm ["self","word"] ["self","word"] (z6 j6):=⟨rfl,rfl,rfl,by decide +kernel,rfl,by decide +kernel,by decide +kernel⟩
set_option maxHeartbeats 400000 in
theorem sU (T:Txt K mg t):qr P w K mg base (pT P w) 4 t.yH t.b7 ["self","word"] (cR t 1):=by
 refine T.dh.fn.Xh sN (fun vs H Q E h=>(by obtain⟨_,_,_,_,_,_,_,_,rfl,_⟩:=h;rfl)) (fun cdv A outer s H vs Q E hr h=>?_)
 obtain⟨kd,q,dx,pq,ka,ma,o,z,rfl,hS,k⟩:=h
 have M1:ja P w K mg base (pT P w) 3 t.qZ "meant" (Z6 K t):=.mk' T.wy (gf T) T.yg.bd (by decide)
 refine⟨_,(qz (qf (yl (pU fun _ _ _ z=>z) hr (pv 0) (z5 (pv 1) (z5 (vz (z5 qk z8)) z8))))),?_⟩
 walk_at "rd"
 refine⟨q,_,dx,_,rfl,hS.1,T.qI,lW,_,M1,?_⟩
 walk_at "rd"
 intro tp H1 s1 htp e1
 exact⟨kd,q,dx,pq,ka,ma,tp,o,z,["act"],rfl,hS.same s1,g9.of e1,k.same s1⟩
theorem cM:qm ["self","word"] ["self","word"] (z6 q9):=⟨rfl,rfl,rfl,by decide +kernel,rfl,by decide +kernel,by decide +kernel⟩
set_option maxHeartbeats 400000 in
theorem gL (T:Txt K mg t):qr P w K mg base (pT P w) 4 t.kF t.wD ["self","word"] (cR t 2):=by
 refine T.vM.fn.Xh cM (fun vs H Q E h=>(by obtain⟨_,_,_,_,_,_,_,_,rfl,_⟩:=h;rfl)) (fun cdv A outer s H vs Q E hr h=>?_)
 obtain⟨kd,q,dx,pq,ka,ma,o,z,rfl,hS,k⟩:=h
 have M1:ja P w K mg base (pT P w) 3 t.qZ "meant" (Z6 K t):=.mk' T.wy (gf T) T.yg.bd (by decide)
 refine⟨_,(qz (qf (yl (pU fun _ _ _ z=>z) hr (pv 0) (z5 (pv 1) (z5 (xf rfl T.nI (v:=.ref t.pe) rfl) z8))))),?_⟩
 walk_at "rd"
 refine⟨q,_,dx,_,rfl,hS.1,T.qI,lW,_,M1,?_⟩
 walk_at "rd"
 exact⟨kd,q,dx,pq,ka,ma,t.pe,o,z,jk,rfl,hS,iA T _,k⟩
theorem gO:qm ["self","word","room"] ["self","word"] (z6 qA):=⟨rfl,rfl,rfl,by decide +kernel,rfl,by decide +kernel,by decide +kernel⟩
set_option maxHeartbeats 400000 in
theorem cX (T:Txt K mg t):qr P w K mg base (pT P w) 5 t.kB t.wM ["self","word"] (cR t 3):=by
 have M_CalmRoom_init:qr P w K mg base jy 3 t.xI t.vo ["self","word"] (ue K "word"):=(uu T).mono (by decide)
 refine T.yN.fn.Xh gO (fun vs H Q E h=>(by obtain⟨_,_,_,_,_,_,_,_,rfl,_⟩:=h;rfl)) (fun cdv A outer s H vs Q E hr h=>?_)
 obtain⟨kd,q,dx,pq,ka,ma,o,z,rfl,hS,k⟩:=h
 have M1:ja P w K mg base (pT P w) 4 t.qZ "room_for" (cR t 2):=.mk' T.wg (gL T) T.vM.bd (by decide)
 refine⟨_,(z7 (qu (i:=2) gO.nd rfl (Or.inl rfl) (yl (pU fun _ _ _ z=>z) hr (pv 0) (z5 (pv 1) z8)))
   (z7 (qF (qt xj (yk (xE hr) (jh (K:=K) rfl (pv 0) rfl) (pv 1) (fun _ _=>rfl)) qk (qV _))
    (qz (wQ yM rfl (wa T.mq M_CalmRoom_init hr rfl T.di T.g8.bd .nil qK (z5 (pv 1) z8)))) ql)
   (qz (qf (pv 2))))),?_⟩
 walk_at "rd"
 refine⟨q,_,dx,_,rfl,hS.1,T.qI,V5,_,M1,?_⟩
 refine⟨_,rfl,kd,q,dx,pq,ka,ma,o,z,rfl,hS,?_⟩
 have k2:eE t z H Q E (fA kd (mA kd o jk z)):=k
 clear k
 show eE t z H _ _ (mA kd o jk z)
 cases hm:mA kd o jk z with
 | name=>rw[hm] at k2;exact k2
 | calm=>rw[hm] at k2;exact k2
 | told b=>
  rw[hm] at k2
  have hl:lk o z=some b:=by
   unfold mA at hm
   cases hq:lk o z with
   | none=>rw[hq] at hm;cases hm
   | some y=>
    rw[hq] at hm
    dsimp only at hm
    split at hm
    ·cases hm;rfl
    ·cases hm
  intro H1 s1
  have hS1:=hS.same s1
  have hg:vq H1 ka (kV (.inr z)) (some (V.str (kd b))):=by
   have:=vq.k (k:=.inr z) hS1.2.1
   rw[yJ,ZF,hl] at this
   exact this
  have k3:=k2.same s1
  have k3:eE t z H1 Q E (if kd b = "calm" then .calm else .told b):=k3
  show jN 2 (V.str b) [some (.ref q),some (.str z),none] _ _
  walk_at "rd"
  refine⟨_,hS1.f2 T,_,rfl,ka,_,rfl,hg,?_⟩
  walk_at "rd"
  refine jm (fun h1=>?_) (fun h1=>?_)
  ·have e:kd b = "calm":=V.str.inj (of_decide_eq_true h1)
   rw[if_pos e] at k3
   walk_at "rd"
   exact Ya T k3
  ·have e:¬kd b = "calm":=fun z=>h1 (by rw[z];exact decide_eq_true rfl)
   rw[if_neg e] at k3
   walk_at "rd"
   exact k3 H1 (qp.refl _)
end
theorem Yj (kd:Str→Str) (o:Ow):(mv kd o).length=o.length:=List.length_map ..
noncomputable def XM (t:jf):Sp:=fun vs H Q E=>∃(kd:Str→Str) (q dx pq ka ma:Addr) (o:Ow) (n v:Str),vs=[.ref q,.str n,.str v]∧kr t H q dx pq ka ma (mv kd o) o∧ka≠ma∧o.length≤200∧(lk o v=none→∀c x H',KP t v H c x H'→E c x H')∧
 ∀b,lk o v=some b→∀H',HL ka ma H H'→kr t H' q dx pq ka ma (mv kd (pu o n b)) (pu o n b)→Q .non H'
noncomputable def XN (t:jf):Sp:=fun vs H Q _=>∃(q dx pq:Addr) (ps as:List Str) (rms:List (Str × Str)) (rw:Rw),vs=[.ref q,.ref pq]∧H q=some (.ins t.qZ dx [])∧bU t H pq ps as rms rw∧Zb ps as rms∧∀H' ka ma,Off q H H'→kr t H' q dx pq ka ma (pF ps as rms) (mQ (pF ps as rms))→H ka=none→H ma=none→ka≠ma→Q .non H'
noncomputable def Wx (t:jf):Sp:=fun vs H Q _=>∃(q dx pq ka ma:Addr) (ks ms:Ow) (ps as:List Str) (rms:List (Str × Str)) (rw:Rw),vs=[.ref q]∧kr t H q dx pq ka ma ks ms∧bU t H pq ps as rms rw∧Zb ps as rms∧∀q' dx' ka' ma' H',qp H H'→kr t H' q' dx' pq ka' ma' ks ms→H q'=none→H ka'=none→H ma'=none→ka'≠ma'→Q (.ref q') H'
theorem bU.same {t:jf} {H H':Hp} {p:Addr} {ps as:List Str} {rms:List (Str × Str)} {rw:Rw} (h:bU t H p ps as rms rw) (s:qp H H'):bU t H' p ps as rms rw:=by
 obtain⟨dx,a,b,c,x,vs,e1,e2,e3,e4,h5,h6⟩:=h
 exact⟨dx,a,b,c,x,vs,s _ _ e1,s _ _ e2,s _ _ e3,s _ _ e4,Paired.imp' (fun _ _ z=>z.same s) h5,h6.move (Fm.of s) fun _ h=>.inl h⟩
theorem rL (o:Ow) (p:Str × Str):mQ (o ++ [p])=mQ o ++ [(p.1,p.1)]:=by unfold mQ;rw[List.map_append];rfl
theorem Fz {a b c:Addr} {x:V}:(WS a b c x).lookup ("parties" : Str)=some (.ref a):=jg
theorem Fq {a b c:Addr} {x:V}:(WS a b c x).lookup ("acts" : Str)=some (.ref b):=(jx fun q=>a1 (Eq.symm q)).trans jg
theorem Fj {a b c:Addr} {x:V}:(WS a b c x).lookup ("rooms" : Str)=some (.ref c):=(jx fun q=>a2 (Eq.symm q)).trans ((jx fun q=>a4 (Eq.symm q)).trans jg)
theorem Off.Bg {q ka ma:Addr} {H H1 H2:Hp} (h:Off q H H1) (k:HL ka ma H1 H2) (n1:H ka=none) (n2:H ma=none):Off q H H2:=fun b o hb e=>by
 rw[k b (qx e n1) (qx e n2)]
 exact h b o hb e
section
variable {P:Program} {w:World} {K:PySem.W.Frag} {mg:Str→Option Value} {base:Heap} {t:jf}
theorem sT:qm ["self","name","value"] ["self","name","value"] (z6 j5):=⟨rfl,rfl,rfl,by decide +kernel,rfl,by decide +kernel,by decide +kernel⟩
set_option maxHeartbeats 400000 in
theorem sF (T:Txt K mg t):qr P w K mg base (pT P w) 3 t.yG t.bA ["self","name","value"] (XM t):=by
 have M_NoName_init:qr P w K mg base jy 1 t.kz t.vj ["self","word"] (ue K "word"):=(fY T).mono (by decide)
 refine T.dg.fn.Xh sT (fun vs H Q E h=>(by obtain⟨_,_,_,_,_,_,_,_,_,rfl,_⟩:=h;rfl)) (fun cdv A outer s H vs Q E hr h=>?_)
 obtain⟨kd,q,dx,pq,ka,ma,o,n,v,rfl,hS,hne,hl,kE,kQ⟩:=h
 have M1:ja P w K mg base jy 2 t.qZ "know" (aO t):=.mk' T.bg (dj T) T.bL.bd (by decide)
 refine⟨_,(z7 (qF (lU (uo (xE hr) (pv 2) (jh (K:=K) rfl (pv 0) rfl)))
    (qz (wQ yM rfl (wa T.mB M_NoName_init hr rfl T.fc T.gW.bd .nil qK (z5 (pv 2) z8)))) ql)
   (qz (jU (vp hr (pv 0) (z5 (pv 1) (z5 (yk (xE hr) (jh (K:=K) rfl (pv 0) rfl) (pv 2) (fun _ _=>rfl)) (z5 (yk (xE hr) (jh (K:=K) rfl (pv 0) rfl) (pv 2) (fun _ _=>rfl)) z8))))))),?_⟩
 walk_at "rd"
 have hg:vq H ka (kV (.inr v)) (((lk o v).map kd).map V.str):=by
  have:=vq.k (k:=.inr v) hS.2.1
  rw[yJ,ZF] at this
  exact this
 refine⟨_,hS.f2 T,ka,_,rfl,hg,?_⟩
 walk_at "rd"
 cases hv:lk o v with
 | none=>
  refine ug ?_
  walk_at "rd"
  exact aU T (kE hv)
 | some b=>
  rw[hv] at hg
  have hg2:vq H ma (kV (.inr v)) (some (V.str b)):=by
   have:=vq.k (k:=.inr v) hS.2.2
   rw[yJ,hv] at this
   exact this
  refine oq ?_
  walk_at "rd"
  refine⟨q,_,dx,_,rfl,hS.1,T.qI,rf,_,M1,?_⟩
  walk_at "rd"
  refine⟨_,hS.f2 T,_,rfl,ka,_,rfl,hg,?_⟩
  walk_at "rd"
  refine⟨_,hS.f3 T,_,rfl,ma,_,rfl,hg2,?_⟩
  refine⟨q,dx,pq,ka,ma,_,_,n,kd b,b,rfl,hS,hne,by rw[Yj];exact hl,hl,fun H' k' hS'=>?_⟩
  rw[GC] at hS'
  exact kQ b hv H' k' hS'
theorem vt:qm ["self","pact","name","mark"] ["self","pact"] (z6 j7):=⟨rfl,rfl,rfl,by decide +kernel,rfl,by decide +kernel,by decide +kernel⟩
set_option maxHeartbeats 400000 in
theorem dq (T:Txt K mg t):qr P w K mg base jy 2 t.kP t.vR ["self","pact"] (XN t):=by
 refine T.yO.fn.ok vt (fun vs H Q E h=>(by obtain⟨_,_,_,_,_,_,_,rfl,_⟩:=h;rfl)) (fun cdv A outer s H vs Q E hr h=>?_)
 obtain⟨q,dx,pq,ps,as,rms,rw',rfl,eq,hA,hd,k⟩:=h
 have M1:ja P w K mg base jy 1 t.qZ "know" (aO t):=.mk' T.bg (dj T) T.bL.bd (by decide)
 refine⟨_,(z7 (jE (pv 0) (pv 1) rfl)
   (z7 (jE (pv 0) cZ rfl)
   (z7 (jE (pv 0) cZ rfl)
   (z7 (wZ PassesOwn.never rfl (vm (K:=K) rfl (jh (K:=K) rfl (pv 1) rfl)) (jr (i:=2) vt.nd rfl (Or.inl rfl))
    (qz (jU (vp hr (pv 0) (z5 (pv 2) (z5 qk (z5 (pv 2) z8)))))))
   (z7 (wZ PassesOwn.never rfl (vm (K:=K) rfl (jh (K:=K) rfl (pv 1) rfl)) (jr (i:=2) vt.nd rfl (Or.inl rfl))
    (qz (jU (vp hr (pv 0) (z5 (pv 2) (z5 qk (z5 (pv 2) z8)))))))
   (qz (wZ PassesOwn.never rfl (vm (K:=K) rfl (jh (K:=K) rfl (pv 1) rfl)) (cW (K:=K) rfl rfl (vf (jr (i:=3) vt.nd rfl (Or.inl rfl)) (vf (jr (i:=2) vt.nd rfl (Or.inl rfl)) cY)))
    (qz (jU (vp hr (pv 0) (z5 (pv 2) (z5 (pv 3) (z5 (pv 2) z8))))))))))))),?_⟩
 have p2:=hd.p2;have a2:=hd.a2;have r2:=hd.r2
 obtain⟨dxp,lp,la,lr,xw,vs,epq,elp,ela,elr,hR,_⟩:=hA
 have hvl:vs.length=rms.length:=Paired.length hR
 have nq:∀{b:Addr} {o:HO},H b=some o→(∀C d f,o≠.ins C d f)→b≠q:=fun {b o} e h z=>by rw[z,eq] at e;exact h _ _ _ (Option.some.inj e).symm
 have npq:pq≠q:=fun z=>by
  rw[z,eq] at epq
  obtain⟨_,_,h3⟩:=HO.ins.inj (Option.some.inj epq)
  cases h3
 refine⟨_,rfl,_,rfl,q,_,dx,[],rfl,eq,T.qI,T.bp,(by show 0 < 1000;decide),?_⟩
 have o1:Off q H (upd H q (.ins t.qZ dx (qJ "pact" (.ref pq) []))):=vi
 generalize hH1:upd H q (.ins t.qZ dx (qJ "pact" (.ref pq) []))=H1 at o1 ⊢
 have e1:H1 q=some (.ins t.qZ dx (qJ "pact" (.ref pq) [])):=by rw[←hH1];exact qy
 intro ka H2 s2 hka eka
 have hka0:H ka=none:=fK o1 e1 hka
 refine⟨_,rfl,q,_,dx,_,rfl,s2 _ _ e1,T.qI,T.wm,(by show 1 < 1000;decide),?_⟩
 have o3:Off q H2 (upd H2 q (.ins t.qZ dx (qJ "kinds" (.ref ka) (qJ "pact" (.ref pq) [])))):=vi
 generalize hH3:upd H2 q (.ins t.qZ dx (qJ "kinds" (.ref ka) (qJ "pact" (.ref pq) [])))=H3 at o3 ⊢
 have e3:H3 q=some (.ins t.qZ dx (qJ "kinds" (.ref ka) (qJ "pact" (.ref pq) []))):=by rw[←hH3];exact qy
 have hkq:ka≠q:=fun z=>by rw[z,e1] at hka;cases hka
 have eka3:=o3 _ _ hkq eka
 intro ma H4 s4 hma ema
 have o13:Off q H H3:=fun b o hb e=>o3 b o hb (s2 _ _ (o1 b o hb e))
 have hma0:H ma=none:=fK o13 e3 hma
 have hkm:ka≠ma:=qx eka3 hma
 refine⟨_,rfl,q,_,dx,_,rfl,s4 _ _ e3,T.qI,T.ku,(by show 2 < 1000;decide),?_⟩
 rw[GO]
 have o5:Off q H4 (upd H4 q (.ins t.qZ dx (uw pq ka ma))):=vi
 generalize hH5:upd H4 q (.ins t.qZ dx (uw pq ka ma))=H5 at o5 ⊢
 have e5:H5 q=some (.ins t.qZ dx (uw pq ka ma)):=by rw[←hH5];exact qy
 have hmq:ma≠q:=fun z=>by rw[z,e3] at hma;cases hma
 have hS5:kr t H5 q dx pq ka ma [] []:=⟨e5,o5 _ _ hkq (s4 _ _ eka3),o5 _ _ hmq ema⟩
 have o15:Off q H H5:=fun b o hb e=>o5 b o hb (s4 _ _ (o13 b o hb e))
 clear hH1 hH3 hH5 o1 o3 o5 o13 e1 e3 e5 eka eka3 ema s2 s4 hka hma hkq hmq
 have fl1:∀{H':Hp},Off q H H'→Qv K H' (.ref pq) "parties" (.ref lp):=fun o=>⟨pq,_,dxp,_,rfl,o _ _ npq epq,T.gG,T.yZ,Fz⟩
 have Y5:∀{H':Hp},Off q H H'→Qv K H' (.ref pq) "acts" (.ref la):=fun o=>⟨pq,_,dxp,_,rfl,o _ _ npq epq,T.gG,T.pZ,Fq⟩
 have fl3:∀{H':Hp},Off q H H'→Qv K H' (.ref pq) "rooms" (.ref lr):=fun o=>⟨pq,_,dxp,_,rfl,o _ _ npq epq,T.gG,T.bh,Fj⟩
 have nlp:lp≠q:=nq elp (fun _ _ _ z=>by cases z)
 have nla:la≠q:=nq ela (fun _ _ _ z=>by cases z)
 have nlr:lr≠q:=nq elr (fun _ _ _ z=>by cases z)
 refine⟨_,rfl,_,fl1 o15,lp,rfl,⟨_,qM.of (o15 _ _ nlp elp)⟩,?_⟩
 refine yd (K:=K) (a:=lp) (xs:=ps.map V.str) (fun i σ H'=>(∃v2:Option V,σ=[some (.ref q),some (.ref pq),v2,none]∧Off q H H'∧kr t H' q dx pq ka ma (oH [] ((ps.take i).map fun n=>(n,("party" : Str)))) (oH [] (mQ ((ps.take i).map fun n=>(n,("party" : Str))))))∨False)
  (.inl ⟨none,rfl,o15,hS5⟩) (fun i σ H' _ q=>(by obtain⟨_,_,z,_⟩:=q.resolve_right (fun z=>z);exact qM.of (z _ _ nlp elp))) ?_ ?_
 ·intro i y σ H6 hi q6
  obtain⟨v2,rfl,o6,hS6⟩:=q6.resolve_right fun z=>z
  clear q6
  obtain⟨n,hn,rfl⟩:=rV hi
  have hl1:=wJ ((ps.take i).map fun n=>(n,("party" : Str))) []
  have hl2:=wJ (mQ ((ps.take i).map fun n=>(n,("party" : Str)))) []
  rw[show (mQ ((ps.take i).map fun n=>(n,("party" : Str)))).length=((ps.take i).map fun n=>(n,("party" : Str))).length from List.length_map ..,List.length_map,List.length_take] at hl2
  rw[List.length_map,List.length_take] at hl1
  simp only[List.length_nil] at hl1 hl2
  walk_at "rd"
  refine⟨q,_,dx,_,rfl,hS6.1,T.qI,rf,_,M1,?_⟩
  walk_at "rd"
  refine⟨q,dx,pq,ka,ma,_,_,n,"party",n,rfl,hS6,hkm,by omega,by omega,fun H7 k7 hS7=>?_⟩
  refine .inl ⟨_,rfl,o6.Bg k7 hka0 hma0,?_⟩
  rw[take_snoc hn,List.map_append,List.map_cons,List.map_nil,rL,vd,vd]
  exact hS7
 intro σ H6 q6
 obtain⟨v2,rfl,o6,hS6⟩:=q6.resolve_right fun z=>z
 clear q6
 rw[List.length_map,List.take_length] at hS6
 walk_at "rd"
 refine⟨_,Y5 o6,la,rfl,⟨_,qM.of (o6 _ _ nla ela)⟩,?_⟩
 refine yd (K:=K) (a:=la) (xs:=as.map V.str) (fun i σ H'=>(∃v2:Option V,σ=[some (.ref q),some (.ref pq),v2,none]∧Off q H H'∧kr t H' q dx pq ka ma (oH [] (ps.map (fun n=>(n,("party" : Str))) ++ (as.take i).map fun n=>(n,("act" : Str)))) (oH [] (mQ (ps.map (fun n=>(n,("party" : Str))) ++ (as.take i).map fun n=>(n,("act" : Str))))))∨False)
  (.inl ⟨v2,rfl,o6,by rw[List.take_zero,List.map_nil,List.append_nil];exact hS6⟩) (fun i σ H' _ q=>(by obtain⟨_,_,z,_⟩:=q.resolve_right (fun z=>z);exact qM.of (z _ _ nla ela))) ?_ ?_
 ·intro i y σ H6 hi q6
  obtain⟨v2,rfl,o6,hS6⟩:=q6.resolve_right fun z=>z
  clear q6
  obtain⟨n,hn,rfl⟩:=rV hi
  have hl1:=wJ (ps.map (fun n=>(n,("party" : Str))) ++ (as.take i).map fun n=>(n,("act" : Str))) []
  have hl2:=wJ (mQ (ps.map (fun n=>(n,("party" : Str))) ++ (as.take i).map fun n=>(n,("act" : Str)))) []
  rw[show (mQ (ps.map (fun n=>(n,("party" : Str))) ++ (as.take i).map fun n=>(n,("act" : Str)))).length=(ps.map (fun n=>(n,("party" : Str))) ++ (as.take i).map fun n=>(n,("act" : Str))).length from List.length_map ..,List.length_append,List.length_map,List.length_map,List.length_take] at hl2
  rw[List.length_append,List.length_map,List.length_map,List.length_take] at hl1
  simp only[List.length_nil] at hl1 hl2
  walk_at "rd"
  refine⟨q,_,dx,_,rfl,hS6.1,T.qI,rf,_,M1,?_⟩
  walk_at "rd"
  refine⟨q,dx,pq,ka,ma,_,_,n,"act",n,rfl,hS6,hkm,by omega,by omega,fun H7 k7 hS7=>?_⟩
  refine .inl ⟨_,rfl,o6.Bg k7 hka0 hma0,?_⟩
  rw[take_snoc hn,List.map_append,List.map_cons,List.map_nil,←List.append_assoc,rL,vd,vd]
  exact hS7
 intro σ H6 q6
 obtain⟨v2,rfl,o6,hS6⟩:=q6.resolve_right fun z=>z
 clear q6
 rw[List.length_map,List.take_length] at hS6
 walk_at "rd"
 refine⟨_,fl3 o6,lr,rfl,⟨_,qM.of (o6 _ _ nlr elr)⟩,?_⟩
 refine yd (K:=K) (a:=lr) (xs:=vs) (fun i σ H'=>(∃v2 v3:Option V,σ=[some (.ref q),some (.ref pq),v2,v3]∧Off q H H'∧kr t H' q dx pq ka ma (oH [] (ps.map (fun n=>(n,("party" : Str))) ++ as.map (fun n=>(n,("act" : Str))) ++ (rms.take i).map fun mn=>(mn.2,mn.1))) (oH [] (mQ (ps.map (fun n=>(n,("party" : Str))) ++ as.map (fun n=>(n,("act" : Str))) ++ (rms.take i).map fun mn=>(mn.2,mn.1)))))∨False)
  (.inl ⟨v2,none,rfl,o6,by rw[List.take_zero,List.map_nil,List.append_nil];exact hS6⟩) (fun i σ H' _ q=>(by obtain⟨_,_,_,z,_⟩:=q.resolve_right (fun z=>z);exact qM.of (z _ _ nlr elr))) ?_ ?_
 ·intro i y σ H6 hi q6
  obtain⟨v2,v3,rfl,o6,hS6⟩:=q6.resolve_right fun z=>z
  clear q6
  obtain⟨mn,hmn,r,rfl,er⟩:=Paired.HV hR hi
  have er6:=o6 _ _ (nq er (fun _ _ _ z=>by cases z)) er
  have hl1:=wJ (ps.map (fun n=>(n,("party" : Str))) ++ as.map (fun n=>(n,("act" : Str))) ++ (rms.take i).map fun mn=>(mn.2,mn.1)) []
  have hl2:=wJ (mQ (ps.map (fun n=>(n,("party" : Str))) ++ as.map (fun n=>(n,("act" : Str))) ++ (rms.take i).map fun mn=>(mn.2,mn.1))) []
  rw[show (mQ (ps.map (fun n=>(n,("party" : Str))) ++ as.map (fun n=>(n,("act" : Str))) ++ (rms.take i).map fun mn=>(mn.2,mn.1))).length=(ps.map (fun n=>(n,("party" : Str))) ++ as.map (fun n=>(n,("act" : Str))) ++ (rms.take i).map fun mn=>(mn.2,mn.1)).length from List.length_map ..,List.length_append,List.length_append,List.length_map,List.length_map,List.length_map,List.length_take] at hl2
  rw[List.length_append,List.length_append,List.length_map,List.length_map,List.length_map,List.length_take] at hl1
  simp only[List.length_nil] at hl1 hl2
  refine⟨r,_,rfl,g9.of er6,rfl,_,_,rfl,_,_,rfl,rfl,?_⟩
  walk_at "rd"
  refine⟨q,_,dx,_,rfl,hS6.1,T.qI,rf,_,M1,?_⟩
  walk_at "rd"
  refine⟨q,dx,pq,ka,ma,_,_,mn.2,mn.1,mn.2,rfl,hS6,hkm,by omega,by omega,fun H7 k7 hS7=>?_⟩
  refine .inl ⟨_,_,rfl,o6.Bg k7 hka0 hma0,?_⟩
  rw[take_snoc hmn,List.map_append,List.map_cons,List.map_nil,←List.append_assoc,rL,vd,vd]
  exact hS7
 intro σ H6 q6
 obtain⟨v2,v3,rfl,o6,hS6⟩:=q6.resolve_right fun z=>z
 clear q6
 rw[hvl,List.take_length] at hS6
 have g1:=cH (pF ps as rms) [] (by rw[List.nil_append,bW];exact hd.nd)
 have g2:=cH (mQ (pF ps as rms)) [] (by rw[List.nil_append,d8,bW];exact hd.nd)
 rw[List.nil_append] at g1 g2
 have hS7:kr t H6 q dx pq ka ma (oH [] (pF ps as rms)) (oH [] (mQ (pF ps as rms))):=hS6
 rw[g1,g2] at hS7
 exact k H6 ka ma o6 hS7 hka0 hma0 hkm
theorem pR:qm ["self","scope"] ["self"] (z6 jl):=⟨rfl,rfl,rfl,by decide +kernel,rfl,by decide +kernel,by decide +kernel⟩
set_option maxHeartbeats 400000 in
theorem uI (T:Txt K mg t):qr P w K mg base jy 4 t.vO t.yA ["self"] (Wx t):=by
 have M_Scope_init:qr P w K mg base jy 2 t.kP t.vR ["self","pact"] (XN t):=(dq T).mono (by decide)
 refine T.bR.fn.ok pR (fun vs H Q E h=>(by obtain⟨_,_,_,_,_,_,_,_,_,_,_,rfl,_⟩:=h;rfl)) (fun cdv A outer s H vs Q E hr h=>?_)
 obtain⟨q,dx,pq,ka,ma,ks,ms,ps,as,rms,rw',rfl,hS,hA,hd,k⟩:=h
 refine⟨_,(z7 (qu (i:=1) pR.nd rfl (Or.inl rfl) (kU T.cj M_Scope_init hr rfl T.rp T.yO.bd .nil qK (z5 (jh (K:=K) rfl (pv 0) rfl) z8)))
   (z7 (jE (pv 1) (kx de rfl T.nB PyProof.Rows.boot_dict (z5 (jh (K:=K) rfl (pv 0) rfl) z8)) rfl)
   (z7 (jE (pv 1) (kx de rfl T.nB PyProof.Rows.boot_dict (z5 (jh (K:=K) rfl (pv 0) rfl) z8)) rfl)
   (qz (qf (pv 1)))))),?_⟩
 refine⟨_,rfl,_,hS.f1 T,?_⟩
 intro p dx1 hp hdx1 hne1
 have sM:=wj (o:=HO.own p) (o2:=HO.ins t.qZ dx1 []) hp hdx1
 refine⟨p,dx1,pq,ps,as,rms,rw',rfl,qy,hA.same sM,hd,fun H1 k1 m1 o1 hS1 n1 n2 h12=>⟨rfl,?_⟩⟩
 have s1:qp H H1:=fu hp hdx1 o1
 have hSo:=hS.same s1
 show jN 1 (V.ref p) [some (.ref q),none] _ _
 walk_at "rd"
 refine⟨_,hSo.f2 T,ka,_,rfl,hSo.2.1,?_⟩
 intro k2 H2 s2 hk2 e2
 have hk20:=s1.free hk2
 have hSo2:=hSo.same s2
 refine⟨_,rfl,p,_,dx1,_,rfl,s2 _ _ hS1.1,T.qI,T.wm,(by show 3 < 1000;decide),?_⟩
 rw[GI]
 have o3:Off p H2 (upd H2 p (.ins t.qZ dx1 (uw pq k2 m1))):=vi
 generalize hH3:upd H2 p (.ins t.qZ dx1 (uw pq k2 m1))=H3 at o3 ⊢
 have e3:H3 p=some (.ins t.qZ dx1 (uw pq k2 m1)):=by rw[←hH3];exact qy
 have s3:qp H H3:=fun b o e=>o3 b o (qx e hp) (s2 _ _ (s1 _ _ e))
 have hSo3:=hS.same s3
 have nk2:k2≠p:=fun z=>by rw[z,hS1.1] at hk2;cases hk2
 have e23:=o3 _ _ nk2 e2
 walk_at "rd"
 refine⟨_,hSo3.f3 T,ma,_,rfl,hSo3.2.2,?_⟩
 intro m2 H4 s4 hm2 e4
 have hm20:=s3.free hm2
 have nm2:m2≠p:=fun z=>by rw[z,e3] at hm2;cases hm2
 have nkm:k2≠m2:=qx e23 hm2
 refine⟨_,rfl,p,_,dx1,_,rfl,s4 _ _ e3,T.qI,T.ku,(by show 3 < 1000;decide),?_⟩
 rw[GA]
 have o5:Off p H4 (upd H4 p (.ins t.qZ dx1 (uw pq k2 m2))):=vi
 generalize hH5:upd H4 p (.ins t.qZ dx1 (uw pq k2 m2))=H5 at o5 ⊢
 have e5:H5 p=some (.ins t.qZ dx1 (uw pq k2 m2)):=by rw[←hH5];exact qy
 have s5:qp H H5:=fun b o e=>o5 b o (qx e hp) (s4 _ _ (s3 _ _ e))
 walk_at "rd"
 exact k p dx1 k2 m2 H5 s5 ⟨e5,o5 _ _ nk2 (s4 _ _ e23),o5 _ _ nm2 e4⟩ hp hk20 hm20 nkm
end
noncomputable def way (w:Int) (n:Nat):Prop:=w=(n:Int)∧n < 4
noncomputable def P7 (t:jf) (kd:Str→Str) (o:Ow) (n:Nat) (z:Str) (H:Hp):XK:=fun c x H'=>(uq kd o n z=.name∧KP t z H c x H')∨(uq kd o n z=.calm∧WM t z H c x H')
theorem eE.of {t:jf} {z:Str} {H:Hp} {Q:VK} {E:XK} {r:An} (h1:∀b,r=.told b→∀H',qp H H'→Q (.str b) H') (h2:r=.name→∀c o H',KP t z H c o H'→E c o H') (h3:r=.calm→∀c o H',WM t z H c o H'→E c o H'):eE t z H Q E r:=by
 cases r with
 | told b=>exact h1 b rfl
 | name=>exact h2 rfl
 | calm=>exact h3 rfl
noncomputable def cV (z:Str):An→Str × Str
 | .told b=>("told",b)
 | .name=>("name",z)
 | .calm=>("calm",z)
noncomputable def Z5 (t:jf):Sp:=fun vs H Q E=>∃(kd:Str→Str) (q dx pq ka ma:Addr) (o:Ow) (n:Nat) (z:Str),vs=[.ref q,.int n,.str z]∧n < 4∧kr t H q dx pq ka ma (mv kd o) o∧eE t z H Q E (uq kd o n z)
noncomputable def Z4 (t:jf):Sp:=fun vs H Q _=>∃(kd:Str→Str) (q dx pq ka ma:Addr) (o:Ow) (n:Nat) (z:Str),vs=[.ref q,.int n,.str z]∧n < 4∧kr t H q dx pq ka ma (mv kd o) o∧∀p H',qp H H'→H p=none→H' p=some (.tup [.str (cV z (uq kd o n z)).1,.str (cV z (uq kd o n z)).2])→Q (.ref p) H'
theorem Xz {a b c:Addr}:(uw a b c).lookup ("party" : Str)=none:=fv (by decide +kernel) (by decide +kernel) (by decide +kernel)
theorem Vj {a b c:Addr}:(uw a b c).lookup ("deed" : Str)=none:=fv (by decide +kernel) (by decide +kernel) (by decide +kernel)
theorem J9 {a b c:Addr}:(uw a b c).lookup ("falls_to" : Str)=none:=fv (by decide +kernel) (by decide +kernel) (by decide +kernel)
theorem Vq {a b c:Addr}:(uw a b c).lookup ("bind" : Str)=none:=fv (by decide +kernel) (by decide +kernel) (by decide +kernel)
theorem QG {a b c:Addr}:(uw a b c).lookup ("copied" : Str)=none:=fv (by decide +kernel) (by decide +kernel) (by decide +kernel)
section
variable {P:Program} {w:World} {K:PySem.W.Frag} {mg:Str→Option Value} {base:Heap} {t:jf}
theorem aR:qm ["_law_scope_here","_law_way","_law_word"] ["_law_scope_here","_law_way","_law_word"] (z6 kT):=⟨rfl,rfl,rfl,by decide +kernel,rfl,by decide +kernel,by decide +kernel⟩
set_option maxHeartbeats 400000 in
theorem aH (T:Txt K mg t):qr P w K mg base (pT P w) 6 t.ml t.mh ["_law_scope_here","_law_way","_law_word"] (Z5 t):=by
 refine T.cN.fn.Xh aR (fun vs H Q E h=>(by obtain⟨_,_,_,_,_,_,_,_,_,rfl,_⟩:=h;rfl)) (fun cdv A outer s H vs Q E hr h=>?_)
 obtain⟨kd,q,dx,pq,ka,ma,o,n,z,rfl,hn,hS,k⟩:=h
 have M0:ja P w K mg base (pT P w) 5 t.qZ "party" (cR t 0):=.mk' T.fo (lB T) T.p4.bd (by decide)
 have M1:ja P w K mg base (pT P w) 5 t.qZ "deed" (cR t 1):=.mk' T.mN (sU T) T.dh.bd (by decide)
 have M2:ja P w K mg base (pT P w) 5 t.qZ "room_for" (cR t 2):=.mk' T.wg (gL T) T.vM.bd (by decide)
 have M3:ja P w K mg base (pT P w) 5 t.qZ "falls_to" (cR t 3):=.mk' T.gR (cX T) T.yN.bd (by decide)
 refine⟨_,(z7 (qF (qt xj (pv 1) z9 (qV _))
    (qz (qf (yl (pU fun _ _ _ z=>z) hr (pv 0) (z5 (pv 2) z8)))) ql)
   (z7 (qF (qt xj (pv 1) z9 (qV _))
    (qz (qf (yl (pU fun _ _ _ z=>z) hr (pv 0) (z5 (pv 2) z8)))) ql)
   (z7 (qF (qt xj (pv 1) z9 (qV _))
    (qz (qf (yl (pU fun _ _ _ z=>z) hr (pv 0) (z5 (pv 2) z8)))) ql)
   (qz (qf (yl (pU fun _ _ _ z=>z) hr (pv 0) (z5 (pv 2) z8))))))),?_⟩
 walk_at "rd"
 refine jm (fun h1=>?_) (fun h1=>?_)
 ·have e:n=0:=by have:=tP h1;omega
  subst e
  walk_at "rd"
  exact⟨q,_,dx,_,rfl,hS.1,T.qI,Xz,_,M0,_,rfl,kd,q,dx,pq,ka,ma,o,z,rfl,hS,k⟩
 walk_at "rd"
 refine jm (fun h2=>?_) (fun h2=>?_)
 ·have e:n=1:=by have:=tP h2;omega
  subst e
  walk_at "rd"
  exact⟨q,_,dx,_,rfl,hS.1,T.qI,Vj,_,M1,_,rfl,kd,q,dx,pq,ka,ma,o,z,rfl,hS,k⟩
 walk_at "rd"
 refine jm (fun h3=>?_) (fun h3=>?_)
 ·have e:n=2:=by have:=tP h3;omega
  subst e
  walk_at "rd"
  exact⟨q,_,dx,_,rfl,hS.1,T.qI,V5,_,M2,_,rfl,kd,q,dx,pq,ka,ma,o,z,rfl,hS,k⟩
 have e:n=3:=by
  have q1:n≠0:=fun z=>h1 (rS (by omega))
  have q2:n≠1:=fun z=>h2 (rS (by omega))
  have q3:n≠2:=fun z=>h3 (rS (by omega))
  omega
 subst e
 walk_at "rd"
 exact⟨q,_,dx,_,rfl,hS.1,T.qI,J9,_,M3,_,rfl,kd,q,dx,pq,ka,ma,o,z,rfl,hS,k⟩
theorem gr:qm ["_law_scope_here","_law_way","_law_word","_law_found","e"] ["_law_scope_here","_law_way","_law_word"] (z6 kR):=⟨rfl,rfl,rfl,by decide +kernel,rfl,by decide +kernel,by decide +kernel⟩
set_option maxHeartbeats 400000 in
theorem aY (T:Txt K mg t):qr P w K mg base jy 7 t.md t.mx ["_law_scope_here","_law_way","_law_word"] (Z4 t):=by
 have G_w_means:qr P w K mg base (pT P w) 6 t.ml t.mh ["_law_scope_here","_law_way","_law_word"] (Z5 t):=(aH T).mono (by decide)
 refine T.cS.fn.ok gr (fun vs H Q E h=>(by obtain⟨_,_,_,_,_,_,_,_,_,rfl,_⟩:=h;rfl)) (fun cdv A outer s H vs Q E hr h=>?_)
 obtain⟨kd,q,dx,pq,ka,ma,own,way,z,rfl,hn,hS,k⟩:=h
 refine⟨_,(z7 (qu (i:=3) gr.nd rfl (Or.inl rfl) (vz (z5 qk (z5 qk z8))))
   (z7 (Vd (Eh:=(P7 t kd own way z H)) (j:=3) (i:=4) (fun _ _ z=>z) rfl rfl gr.nd rfl rfl rfl rfl rfl T.fc rfl T.di (Xt (fun _ _ z=>z) qk (Xl (fun _ _ z=>z) G_w_means hr rfl T.cN.mg T.cN.fn.kp T.cN.bd .nil (z5 (pv 0) (z5 (pv 1) (z5 (pv 2) z8)))))
   (fun aa=>(qz (qu (i:=3) gr.nd rfl (Or.inl rfl) (vz (z5 qk (z5 (oV (K:=K) rfl (pv 4) rfl) z8))))))
   (fun aa=>(qz (qu (i:=3) gr.nd rfl (Or.inl rfl) (vz (z5 qk (z5 (oV (K:=K) rfl (pv 4) rfl) z8)))))))
   (qz (qf (pv 3))))),?_⟩
 walk_at "rd"
 intro p0 H0 s0 hp0 e0
 show jN 3 (V.ref p0) [some (.ref q),some (.int way),some (.str z),none,none] _ _
 refine⟨?_,?_⟩
 ·refine⟨_,rfl,_,rfl,_,rfl,kd,q,dx,pq,ka,ma,own,way,z,rfl,hn,hS.same s0,eE.of (fun b hb H1 s1=>?_) (fun hb c o H' e=>.inl ⟨hb,e.back s0⟩) (fun hb c o H' e=>.inr ⟨hb,e.back s0⟩)⟩
  intro p H2 s2 hp e2
  show jN 3 (V.ref p) [some (.ref q),some (.int way),some (.str z),some (.ref p0),none] _ _
  walk_at "rd"
  refine k p H2 ((s0.trans s1).trans s2) ((s0.trans s1).free hp) ?_
  rw[hb]
  exact e2
 intro C a H1 hE
 rcases hE with ⟨hb,a',ea,ec,s1,hx1⟩ | ⟨hb,a',ea,ec,s1,hx1⟩
 ·obtain rfl:a=a':=Option.some.inj ea
  obtain rfl:C=t.jS:=Value.ref.inj ec
  refine .inl ⟨T.wC,?_⟩
  show QA _ _ _ [some (.ref q),some (.int way),some (.str z),some (.ref p0),some (.ref a)] _
  walk_at "rd"
  refine⟨a,_,_,.str z,rfl,hx1,T.pH,T.wb,jg,?_⟩
  refine⟨qv (by show 2≤1000;decide),?_⟩
  intro p H2 s2 hp e2
  walk_at "rd"
  refine k p H2 (s1.trans s2) (s1.free hp) ?_
  rw[hb]
  exact e2
 ·obtain rfl:a=a':=Option.some.inj ea
  obtain rfl:C=t.ju:=Value.ref.inj ec
  refine .inr ⟨T.gz,T.yb,?_⟩
  show QA _ _ _ [some (.ref q),some (.int way),some (.str z),some (.ref p0),some (.ref a)] _
  walk_at "rd"
  refine⟨a,_,_,.str z,rfl,hx1,T.cI,T.wR,jg,?_⟩
  refine⟨qv (by show 2≤1000;decide),?_⟩
  intro p H2 s2 hp e2
  walk_at "rd"
  refine k p H2 (s1.trans s2) (s1.free hp) ?_
  rw[hb]
  exact e2
end
noncomputable def Ws:Nat→List Str
 | 0=>["party"]
 | 1=>["act"]
 | _=>["calm","sore","end"]
theorem Bq {kd:Str→Str} {b:Str} (h:kd b = "calm"):fA kd (.told b)=.calm:=if_pos h
theorem Bj {kd:Str→Str} {b:Str} (h:¬kd b = "calm"):fA kd (.told b)=.told b:=if_neg h
theorem Jw (kd:Str→Str) (o:Ow) {n:Nat} {z:Str} (hn:n < 4) (h:¬(n=0∧z = "any")):uq kd o n z=if n=3 then fA kd (mA kd o (Ws n) z) else mA kd o (Ws n) z:=by
 match n,hn,h with
 | 0,_,h=>exact if_neg fun q=>h ⟨rfl,q⟩
 | 1,_,_=>rfl
 | 2,_,_=>rfl
 | 3,_,_=>rfl
noncomputable def Kt (kd:Str→Str) (K0 o:Ow):Prop:=∀z b,lk o z=some b→lk K0 b=some (kd b)∧qX b=true
noncomputable def He (z:Str):Prop:=qX z=true∨z = "any"
theorem He.ok {z:Str} (h:He z):PyData.strOk z=true:=by
 rcases h with h | rfl
 ·exact(cn h).ok
 ·decide +kernel
theorem Jv {kd:Str→Str} {o:Ow}:uq kd o 0 "any" = .told "any":=by
 show (if ("any" : Str) = "any" then An.told "any" else mA kd o ["party"] "any")=_
 rw[if_pos rfl]
noncomputable def Wv:Sp:=fun vs H Q _=>∃(kd:Str→Str) (d0 d1:Addr) (K0 o:Ow) (n:Nat) (z:Str),vs=[.ref d0,.ref d1,.int n,.str z]∧n < 4∧H d0=some (.dK (dS K0))∧H d1=some (.dK (dS o))∧Kt kd K0 o∧∀p H',qp H H'→H p=none→H' p=some (.tup [.str (cV z (uq kd o n z)).1,.str (cV z (uq kd o n z)).2])→Q (.ref p) H'
noncomputable def X4 (t:jf):Sp:=fun vs H Q _=>∃(kd:Str→Str) (q dx pq ka ma d0 d1:Addr) (K0 o:Ow) (n:Nat) (z:Str),vs=[.ref q,.ref d0,.ref d1,.int n,.str z]∧n < 4∧kr t H q dx pq ka ma (mv kd o) o∧H d0=some (.dK (dS K0))∧H d1=some (.dK (dS o))∧Kt kd K0 o∧He z∧∀H',qp H H'→Q (.bl true) H'
theorem Vh {kd:Str→Str} {K0 o:Ow} {n:Nat} {z:Str} (hn:n < 4) (hB:Kt kd K0 o) (hz:He z):PyData.strOk (cV z (uq kd o n z)).1=true∧PyData.strOk (cV z (uq kd o n z)).2=true:=by
 have l1:PyData.strOk ("told" : Str)=true∧PyData.strOk ("name" : Str)=true∧PyData.strOk ("calm" : Str)=true:=by decide +kernel
 have key:∀r:An,(∀b,r=.told b→PyData.strOk b=true)→PyData.strOk (cV z r).1=true∧PyData.strOk (cV z r).2=true:=fun r h=>by
  cases r with
  | told b=>exact⟨l1.1,h b rfl⟩
  | name=>exact⟨l1.2.1,hz.ok⟩
  | calm=>exact⟨l1.2.2,hz.ok⟩
 refine key _ fun b hb=>?_
 have hm:∀ws,mA kd o ws z=.told b→PyData.strOk b=true:=fun ws h=>by
  unfold mA at h
  cases hq:lk o z with
  | none=>rw[hq] at h;exact nomatch h
  | some y=>
   rw[hq] at h
   dsimp only at h
   split at h
   ·cases h;exact(cn (hB z b hq).2).ok
   ·cases h
 by_cases h0:n=0∧z = "any"
 ·obtain⟨rfl,rfl⟩:=h0
  rw[Jv] at hb
  cases hb
  decide +kernel
 ·rw[Jw kd o hn h0] at hb
  split at hb
  ·unfold fA at hb
   split at hb
   ·rename_i y hy
    split at hb
    ·cases hb
    ·cases hb;exact hm _ hy
   ·exact hm _ hb
  ·exact hm _ hb
section
variable {P:Program} {w:World} {K:PySem.W.Frag} {mg:Str→Option Value} {base:Heap} {t:jf}
theorem eY:qm ["_law_kinds_here","_law_scope_here","_law_way","_law_word","_law_wanted"] ["_law_kinds_here","_law_scope_here","_law_way","_law_word"] (z6 yC):=⟨rfl,rfl,rfl,by decide +kernel,rfl,by decide +kernel,by decide +kernel⟩
set_option maxHeartbeats 400000 in
theorem Xp (T:Txt K mg t):qr P w K mg base jy 1 t.rq t.rz ["_law_kinds_here","_law_scope_here","_law_way","_law_word"] Wv:=by
 refine T.eL.fn.ok eY (fun vs H Q E h=>(by obtain⟨_,_,_,_,_,_,_,rfl,_⟩:=h;rfl)) (fun cdv A outer s H vs Q E hr h=>?_)
 obtain⟨kd,d0,d1,K0,o,n,z,rfl,hn,e0,e1,hB,k⟩:=h
 refine⟨_,(z7 (PS.join (qF (PW.pt (lR (qt xj (pv 2) z9 (qV _)) (rm (qt xj (pv 3) qk (qV _)))))
    (qz (qf (vz (z5 qk (z5 qk z8))))) ql))
   (z7 (qu (i:=4) eY.nd rfl (Or.inl rfl) (qe (qw (K:=K) rfl) (jb (z5 (vz (z5 qk z8)) (z5 (vz (z5 qk z8)) (z5 (vz (z5 qk (z5 qk (z5 qk z8)))) (z5 (vz (z5 qk (z5 qk (z5 qk z8)))) z8))))) (pv 2) (fun _ _=>rfl)))
   (z7 (qF (PW.pt (fD (lU (uo (xE hr) (pv 3) (pv 1))) (bf (qt (mK (K:=K) rfl) (yk (xE hr) (pv 0) (yk (xE hr) (pv 1) (pv 3) (fun _ _=>rfl)) (fun _ _=>rfl)) (pv 4) rfl))))
    (qz (qf (vz (z5 qk (z5 (pv 3) z8))))) ql)
   (z7 (PS.join (qF (PW.pt (lR (qt xj (pv 2) z9 (qV _)) (rm (qt xj (yk (xE hr) (pv 0) (yk (xE hr) (pv 1) (pv 3) (fun _ _=>rfl)) (fun _ _=>rfl)) qk (qV _)))))
    (qz (qf (vz (z5 qk (z5 (pv 3) z8))))) ql))
   (qz (qf (vz (z5 qk (z5 (yk (xE hr) (pv 1) (pv 3) (fun _ _=>rfl)) z8))))))))),?_⟩
 show ∃M:L2.St→Hp→Prop,_∧_
 refine⟨fun σ' H'=>(σ'=[some (.ref d0),some (.ref d1),some (.int n),some (.str z),none]∧H'=H∧¬(n=0∧z = "any"))∨False,?_,?_⟩
 ·walk_at "rd"
  refine jm (fun h1=>?_) (fun h1=>.inl ⟨rfl,rfl,fun q=>h1 (rS (by omega))⟩)
  walk_at "rd"
  refine jm (fun h2=>?_) (fun h2=>.inl ⟨rfl,rfl,fun q=>h2 (by rw[q.2];exact decide_eq_true rfl)⟩)
  have q1:n=0:=by have:=tP h1;omega
  have q2:z = "any":=V.str.inj (of_decide_eq_true h2)
  subst q1 q2
  walk_at "rd"
  intro p H1 s1 hp e1
  exact k p H1 s1 hp e1
 intro σ' H' q
 obtain⟨rfl,rfl,hna⟩:=q.resolve_right fun z=>z
 clear q
 rw[Jw kd o hn hna] at k
 walk_at "rd"
 intro t0 H1 s1 ht0 f0
 walk_at "rd"
 intro t1 H2 s2 ht1 f1
 walk_at "rd"
 intro t2 H3 s3 ht2 f2
 walk_at "rd"
 intro t3 H4 s4 ht3 f3
 walk_at "rd"
 intro l H5 s5 hl f5
 have sA:qp H' H5:=(((s1.trans s2).trans s3).trans s4).trans s5
 obtain⟨tw,hat,htw⟩:∃tw,uj [V.ref t0,V.ref t1,V.ref t2,V.ref t3] (n:Int)=some (.ref tw)∧H5 tw=some (.tup ((Ws n).map V.str)):=by
  match n,hn with
  | 0,_=>exact⟨t0,rfl,(((s2.trans s3).trans s4).trans s5) _ _ f0⟩
  | 1,_=>exact⟨t1,rfl,((s3.trans s4).trans s5) _ _ f1⟩
  | 2,_=>exact⟨t2,rfl,(s4.trans s5) _ _ f2⟩
  | 3,_=>exact⟨t3,rfl,s5 _ _ f3⟩
 clear f0 f1 f2 f3 s1 s2 s3 s4 s5 ht0 ht1 ht2 ht3 hl
 refine⟨_,rfl,l,_,_,_,rfl,rfl,qM.of f5,hat,?_⟩
 have e05:=sA _ _ e0
 have e15:=sA _ _ e1
 have hg1:vq H5 d1 (kV (.inr z)) ((lk o z).map V.str):=by
  have:=vq.k (k:=.inr z) e15
  rw[yJ] at this
  exact this
 show jN 4 (V.ref tw) [some (.ref d0),some (.ref d1),some (.int n),some (.str z),none] _ _
 refine⟨_,rfl,_,rfl,d1,_,rfl,hg1,?_⟩
 walk_at "rd"
 cases hz:lk o z with
 | none=>
  refine ug ?_
  walk_at "rd"
  intro p H6 s6 hp e6
  refine k p H6 (sA.trans s6) (sA.free hp) ?_
  have:mA kd o (Ws n) z=.name:=by unfold mA;rw[hz]
  rw[this]
  split
  ·exact e6
  ·exact e6
 | some b=>
  rw[hz] at hg1
  obtain⟨hk0,hnb⟩:=hB z b hz
  have hg0:vq H5 d0 (kV (.inr b)) (some (V.str (kd b))):=by
   have:=vq.k (k:=.inr b) e05
   rw[yJ,hk0] at this
   exact this
  refine oq ?_
  refine⟨_,rfl,_,rfl,_,rfl,d1,_,rfl,hg1,d0,_,rfl,hg0,?_⟩
  refine⟨_,rfl,tw,_,rfl,.inr (g9.of htw),rfl,mH _,_,rfl,?_⟩
  show if (!ZX (V.str (kd b)) ((Ws n).map V.str))=true then _ else _
  rw[mJ]
  have hm:mA kd o (Ws n) z=if kd b∈Ws n then .told b else .name:=by unfold mA;rw[hz]
  by_cases hb:kd b∈Ws n
  ·rw[decide_eq_true hb]
   rw[if_pos hb] at hm
   rw[hm] at k
   refine oq ?_
   show ∃M:L2.St→Hp→Prop,_∧_
   refine⟨fun σ' H'=>(σ'=[some (.ref d0),some (.ref d1),some (.int n),some (.str z),some (.ref tw)]∧H'=H5∧¬(n=3∧kd b = "calm"))∨False,?_,?_⟩
   ·walk_at "rd"
    refine jm (fun h1=>?_) (fun h1=>.inl ⟨rfl,rfl,fun q=>h1 (rS (by omega))⟩)
    have q1:n=3:=by have:=tP h1;omega
    refine⟨_,rfl,_,rfl,_,rfl,d1,_,rfl,hg1,d0,_,rfl,hg0,?_⟩
    walk_at "rd"
    refine jm (fun h2=>?_) (fun h2=>.inl ⟨rfl,rfl,fun q=>h2 (by rw[q.2];exact decide_eq_true rfl)⟩)
    have q2:kd b = "calm":=V.str.inj (of_decide_eq_true h2)
    walk_at "rd"
    intro p H6 s6 hp e6
    refine k p H6 (sA.trans s6) (sA.free hp) ?_
    rw[if_pos q1,Bq q2]
    exact e6
   intro σ' H'' q
   obtain⟨rfl,rfl,hnc⟩:=q.resolve_right fun z=>z
   clear q
   walk_at "rd"
   intro p H6 s6 hp e6
   refine k p H6 (sA.trans s6) (sA.free hp) ?_
   by_cases q1:n=3
   ·rw[if_pos q1,Bj fun q=>hnc ⟨q1,q⟩]
    exact e6
   ·rw[if_neg q1]
    exact e6
  ·rw[decide_eq_false hb]
   rw[if_neg hb] at hm
   rw[hm] at k
   refine ug ?_
   walk_at "rd"
   intro p H6 s6 hp e6
   refine k p H6 (sA.trans s6) (sA.free hp) ?_
   split
   ·exact e6
   ·exact e6
theorem sk:qm ["_law_scope_here","_law_kinds_here","_law_own","_law_way","_law_word","_law_found"] ["_law_scope_here","_law_kinds_here","_law_own","_law_way","_law_word"] (z6 kN):=⟨rfl,rfl,rfl,by decide +kernel,rfl,by decide +kernel,by decide +kernel⟩
set_option maxHeartbeats 400000 in
theorem lM (T:Txt K mg t):qr P w K mg base jy 8 t.bX t.bQ ["_law_scope_here","_law_kinds_here","_law_own","_law_way","_law_word"] (X4 t):=by
 have G_w_asked:qr P w K mg base jy 7 t.md t.mx ["_law_scope_here","_law_way","_law_word"] (Z4 t):=(aY T).mono (by decide)
 have G_w_due:qr P w K mg base jy 7 t.rq t.rz ["_law_kinds_here","_law_scope_here","_law_way","_law_word"] Wv:=(Xp T).mono (by decide)
 refine T.wB.fn.ok sk (fun vs H Q E h=>(by obtain⟨_,_,_,_,_,_,_,_,_,_,_,_,rfl,_⟩:=h;rfl)) (fun cdv A outer s H vs Q E hr h=>?_)
 obtain⟨kd,q,dx,pq,ka,ma,d0,d1,K0,o,n,z,rfl,hn,hS,e0,e1,hB,hz,k⟩:=h
 refine⟨_,(z7 (qu (i:=5) sk.nd rfl (Or.inl rfl) (qi G_w_asked hr rfl T.cS.mg T.cS.fn.kp T.cS.bd .nil qK (z5 (pv 0) (z5 (pv 3) (z5 (pv 4) z8)))))
   (qz (qf (oK (qG (nF (K:=K) rfl) rfl T.bS PyProof.Rows.boot_isinstance (z5 (qe (kM (K:=K) rfl) (pv 5) z9 (fun _ _=>rfl)) (z5 (ZA rfl T.VN PyProof.Rows.boot_str (v:=.ty "str") rfl) z8))) (lC (gT (oQ (K:=K) rfl hr.units) (pv 5) (qi G_w_due hr rfl T.eL.mg T.eL.fn.kp T.eL.bd .nil qK (z5 (pv 1) (z5 (pv 2) (z5 (pv 3) (z5 (pv 4) z8))))) (qV _))))))),?_⟩
 walk_at "rd"
 refine⟨kd,q,dx,pq,ka,ma,o,n,z,rfl,hn,hS,fun p H1 s1 hp f1=>?_⟩
 obtain⟨x,y,hxy⟩:∃x y,cV z (uq kd o n z)=(x,y):=⟨_,_,rfl⟩
 have jj:=Vh (n:=n) hn hB hz
 rw[hxy] at f1 jj
 show jN 5 (V.ref p) [some (.ref q),some (.ref d0),some (.ref d1),some (.int n),some (.str z),none] _ _
 walk_at "rd"
 refine⟨kd,d0,d1,K0,o,n,z,rfl,hn,s1 _ _ e0,s1 _ _ e1,hB,fun p2 H2 s2 hp2 f2=>?_⟩
 rw[hxy] at f2
 have f12:=s2 _ _ f1
 have r1:sY K H2 (.ref p) (.tuple [.str x,.str y]):=sY.tup (g9.of f12) (.cons (.str _) (.cons (.str _) .nil))
 have r2:sY K H2 (.ref p2) (.tuple [.str x,.str y]):=sY.tup (g9.of f2) (.cons (.str _) (.cons (.str _) .nil))
 have sh:SeqAt.shaped (.tuple [.str x,.str y])=true:=by simp [SeqAt.shaped,PyData.canLay0,PyData.canLayAll0,PyData.depthAll,PyData.depth,jj.1,jj.2]
 refine⟨_,_,r1,r2,sh,sh,?_⟩
 rw[show PyData.eqv (.tuple [.str x,.str y]) (.tuple [.str x,.str y])=true by simp [PyData.eqv,PyData.eqvAll]]
 exact k H2 (s1.trans s2)
end
theorem KZ:bootBuiltins (Str.ofString "ValueError")=some (Value.type "ValueError"):=by kernel_rfl
noncomputable def P8 (t:jf) (o:Ow) (v:Str) (H:Hp):XK:=fun c x H'=>lk o v=none∧KP t v H c x H'
noncomputable def B8 (a b c:Addr) (H H':Hp):Prop:=∀x,x≠a→x≠b→x≠c→H' x=H x
noncomputable def Wj (t:jf):Sp:=fun vs H Q _=>∃(kd:Str→Str) (q dx pq ka ma d1:Addr) (o:Ow) (n v:Str),vs=[.ref q,.ref d1,.str n,.str v]∧kr t H q dx pq ka ma (mv kd o) o∧H d1=some (.dK (dS o))∧ka≠ma∧ka≠d1∧ma≠d1∧o.length≤200∧
 (lk o v=none→∀H',qp H H'→Q (.bl true) H')∧∀b,lk o v=some b→∀H',B8 ka ma d1 H H'→kr t H' q dx pq ka ma (mv kd (pu o n b)) (pu o n b)→H' d1=some (.dK (dS (pu o n b)))→Q (.bl true) H'
section
variable {P:Program} {w:World} {K:PySem.W.Frag} {mg:Str→Option Value} {base:Heap} {t:jf}
theorem pW:qm ["_law_scope_here","_law_own","_law_name","_law_value","_law_refused","e"] ["_law_scope_here","_law_own","_law_name","_law_value"] (z6 kL):=⟨rfl,rfl,rfl,by decide +kernel,rfl,by decide +kernel,by decide +kernel⟩
set_option maxHeartbeats 400000 in
theorem aG (T:Txt K mg t):qr P w K mg base jy 5 t.mr t.mw ["_law_scope_here","_law_own","_law_name","_law_value"] (Wj t):=by
 refine T.cT.fn.ok pW (fun vs H Q E h=>(by obtain⟨_,_,_,_,_,_,_,_,_,_,rfl,_⟩:=h;rfl)) (fun cdv A outer s H vs Q E hr h=>?_)
 obtain⟨kd,q,dx,pq,ka,ma,d1,o,n,v,rfl,hS,e1,hkm,hk1,hm1,hl,k0,k1⟩:=h
 have MB:ja P w K mg base (pT P w) 4 t.qZ "bind" (XM t):=.mk' T.mT (sF T) T.dg.bd (by decide)
 refine⟨_,(z7 (qu (i:=4) pW.nd rfl (Or.inl rfl) yr)
   (z7 (Vm (Eh:=(P8 t o v H)) (i:=5) (fun _ _ z=>z) rfl rfl pW.nd rfl rfl rfl T.fc (Xs (fun _ _ z=>z) hr (pv 0) (z5 (pv 2) (z5 (pv 3) z8)))
   (fun aa=>(qz (qu (i:=4) pW.nd rfl (Or.inl rfl) (oK (gT xj (oV (K:=K) rfl (pv 5) rfl) (pv 3) (qV _)) (lC (qG (nM (K:=K) rfl) rfl T.bS PyProof.Rows.boot_isinstance (z5 (pv 5) (z5 (ZA rfl T.dM KZ (v:=.ty "ValueError") rfl) z8)))))))))
   (z7 (qF (lU (uo (xE hr) (pv 3) (pv 1)))
    (qz (qf (pv 4))) ql)
   (z7 (gc (yk (xE hr) (pv 1) (pv 3) (fun _ _=>rfl)) (gd (pv 1) (pv 2) (kC (xE hr))))
   (qz (qf (Yf (pv 4)))))))),?_⟩
 show jN 4 (V.bl false) [some (.ref q),some (.ref d1),some (.str n),some (.str v),none,none] _ _
 refine⟨?_,?_⟩
 ·refine⟨_,rfl,q,_,dx,_,rfl,hS.1,T.qI,Vq,_,MB,?_⟩
  refine⟨_,rfl,_,rfl,kd,q,dx,pq,ka,ma,o,n,v,rfl,hS,hkm,hl,fun h c x H' e=>⟨h,e⟩,fun b hb H1 kp1 hS1=>?_⟩
  have e11:H1 d1=some (.dK (dS o)):=by rw[kp1 d1 (Ne.symm hk1) (Ne.symm hm1)];exact e1
  have hg:vq H1 d1 (kV (.inr v)) (some (V.str b)):=by
   have:=vq.k (k:=.inr v) e11
   rw[yJ,hb] at this
   exact this
  refine⟨_,rfl,_,rfl,d1,_,rfl,hg,_,rfl,?_⟩
  refine oq ?_
  refine⟨_,rfl,_,rfl,d1,_,rfl,hg,?_⟩
  walk_at "rd"
  refine⟨d1,_,.inr n,rfl,rfl,e11,qv (by rw[hU];omega),?_⟩
  intro H2 k2 e2
  rw[fM] at e2
  walk_at "rd"
  refine k1 b hb H2 (fun x a1 a2 a3=>(k2 x a3).trans (kp1 x a1 a2)) ⟨k2.look hS1.1 (fun z=>?_),k2.look hS1.2.1 hk1,k2.look hS1.2.2 hm1⟩ e2
  have:=hS1.1
  rw[z,e11] at this
  cases this
 rintro C a H1 ⟨hv,a',ea,ec,s1,hx1⟩
 obtain rfl:a=a':=Option.some.inj ea
 obtain rfl:C=t.jS:=Value.ref.inj ec
 refine⟨T.wC,?_⟩
 show QA _ _ _ [some (.ref q),some (.ref d1),some (.str n),some (.str v),some (.bl false),some (.ref a)] _
 walk_at "rd"
 refine⟨a,_,_,.str v,rfl,hx1,T.pH,T.wb,jg,?_⟩
 walk_at "rd"
 rw[if_pos (decide_eq_true rfl)]
 refine⟨_,rfl,a,_,_,_,_,rfl,.inl ⟨_,rfl⟩,hx1,T.pH,T.yc,?_⟩
 have e11:=s1 _ _ e1
 have hg:vq H1 d1 (kV (.inr v)) none:=by
  have:=vq.k (k:=.inr v) e11
  rw[yJ,hv] at this
  exact this
 show jN 4 (V.bl true) [some (.ref q),some (.ref d1),some (.str n),some (.str v),some (.bl false),some (.ref a)] _ _
 refine⟨_,rfl,_,rfl,d1,_,rfl,hg,_,rfl,?_⟩
 refine ug ?_
 walk_at "rd"
 exact k0 hv H1 s1
end
structure En where
 q:Addr
 dx:Addr
 ka:Addr
 ma:Addr
 d:Addr
 o:Ow
noncomputable def En.mC (e:En):List Addr:=[e.ka,e.ma,e.d]
noncomputable def Jz (t:jf) (H:Hp) (pq:Addr) (kd:Str→Str) (e:En):Prop:=kr t H e.q e.dx pq e.ka e.ma (mv kd e.o) e.o∧H e.d=some (.dK (dS e.o))
structure nV (c:Int) (kd:Str→Str) (K0 o:Ow):Prop where
 nd:(o.map (·.1)).Nodup
 sb:∀n∈o.map (·.1),n∈(NZ c).take 28
 bs:Kt kd K0 o
 ne:o≠[]
theorem V4 {α:Type} [DecidableEq α]:∀{l m:List α},l.Nodup→(∀x∈l,x∈m)→l.length≤m.length
 | [],m,_,_=>Nat.zero_le _
 | x :: l,m,hn,h=>by
  have hx:=h x List.mem_cons_self
  (have hn':=List.nodup_cons.mp hn)
  have ih:=V4 (l:=l) (m:=m.erase x) hn'.2 fun y hy=>(List.mem_erase_of_ne fun e=>hn'.1 (by rw[←e];exact hy)).mpr (h y (List.mem_cons_of_mem _ hy))
  rw[List.length_erase_of_mem hx] at ih
  have:=List.length_pos_of_mem hx
  rw[List.length_cons]
  omega
theorem nV.len {c:Int} {kd:Str→Str} {K0 o:Ow} (h:nV c kd K0 o):o.length≤28:=by
 have:=V4 h.nd h.sb
 rw[List.length_map,List.length_take] at this
 omega
theorem nV.put {c:Int} {kd:Str→Str} {K0 o:Ow} {n v b:Str} (h:nV c kd K0 o) (hn:n∈(NZ c).take 28) (hb:lk o v=some b):nV c kd K0 (pu o n b):=by
 refine⟨?_,?_,fun z y hz=>?_,fun z=>?_⟩
 ·rw[oG]
  split
  ·exact h.nd
  ·rename_i q;exact ZR h.nd q
 ·rw[oG]
  split
  ·exact h.sb
  ·intro x hx
   (rcases List.mem_append.mp hx with hx | hx)
   ·exact h.sb x hx
   ·rw[List.mem_singleton.mp hx];exact hn
 ·rw[GJ] at hz
  split at hz
  ·cases hz;exact h.bs v _ hb
  ·exact h.bs z y hz
 ·have:=oG o n b
  rw[z] at this
  have hk:o.map (·.1)≠[]:=fun q=>h.ne (List.map_eq_nil_iff.mp q)
  split at this
  ·exact hk this.symm
  ·have:=congrArg List.length this
   rw[List.length_append] at this
   simp at this
structure DC (t:jf) (B H:Hp) (c:Int) (pq:Addr) (kd:Str→Str) (K0:Ow) (es:List En):Prop where
 bs:qp B H
 at':∀e∈es,Jz t H pq kd e
 ok:∀e∈es,nV c kd K0 e.o
 nd:(es.flatMap En.mC).Nodup
 fr:∀e∈es,∀a∈e.mC,B a=none
section
variable {t:jf} {B H H':Hp} {c:Int} {pq:Addr} {kd:Str→Str} {K0:Ow} {es:List En}
theorem Jz.same {e:En} (h:Jz t H pq kd e) (s:qp H H'):Jz t H' pq kd e:=⟨h.1.same s,s _ _ h.2⟩
theorem DC.same (h:DC t B H c pq kd K0 es) (s:qp H H'):DC t B H' c pq kd K0 es:=⟨h.bs.trans s,fun e he=>(h.at' e he).same s,h.ok,h.nd,h.fr⟩
theorem DC.keeps {l:Addr} {xs:List V} (h:DC t B H c pq kd K0 es) (k:Keeps l H H') (el:H l=some (.lst xs)) (bl:B l=none):DC t B H' c pq kd K0 es:=by
 refine⟨fun b o e=>by rw[k b (qx e bl)];exact h.bs b o e,fun e he=>?_,h.ok,h.nd,h.fr⟩
 obtain⟨⟨a1,a2,a3⟩,a4⟩:=h.at' e he
 exact⟨⟨k.look a1 (fun z=>by rw[z,el] at a1;cases a1),k.look a2 (fun z=>by rw[z,el] at a2;cases a2),k.look a3 (fun z=>by rw[z,el] at a3;cases a3)⟩,k.look a4 (fun z=>by rw[z,el] at a4;cases a4)⟩
theorem DC.snoc {e:En} (h:DC t B H c pq kd K0 es) (ha:Jz t H pq kd e) (ho:nV c kd K0 e.o) (hn:e.mC.Nodup) (hf:∀a∈e.mC,B a=none) (hd:∀x∈es.flatMap En.mC,x∉e.mC):DC t B H c pq kd K0 (es ++ [e]):=by
 refine⟨h.bs,fun e' he=>?_,fun e' he=>?_,?_,fun e' he=>?_⟩
 ·(rcases List.mem_append.mp he with he | he)
  ·exact h.at' e' he
  ·rw[List.mem_singleton.mp he];exact ha
 ·(rcases List.mem_append.mp he with he | he)
  ·exact h.ok e' he
  ·rw[List.mem_singleton.mp he];exact ho
 ·rw[List.flatMap_append,List.flatMap_cons,List.flatMap_nil,List.append_nil]
  exact List.nodup_append.mpr ⟨h.nd,hn,fun x hx y hy z=>hd x hx (z▸hy)⟩
 ·(rcases List.mem_append.mp he with he | he)
  ·exact h.fr e' he
  ·rw[List.mem_singleton.mp he];exact hf
theorem KL {i j:Nat} {e f:En}:∀{es:List En},(es.flatMap En.mC).Nodup→es[i]?=some e→es[j]?=some f→i≠j→∀x∈e.mC,x∉f.mC:=by
 intro es
 induction es generalizing i j with
 | nil=>intro _ h;cases h
 | cons g es ih=>
  intro hn hi hj hne x hx hy
  rw[List.flatMap_cons] at hn
  obtain⟨_,h2,h3⟩:=List.nodup_append.mp hn
  cases i with
  | zero=>
   cases j with
   | zero=>exact hne rfl
   | succ j=>
    cases hi
    exact h3 x hx x (List.mem_flatMap.mpr ⟨f,List.mem_of_getElem? hj,hy⟩) rfl
  | succ i=>
   cases j with
   | zero=>
    cases hj
    exact h3 x hy x (List.mem_flatMap.mpr ⟨e,List.mem_of_getElem? hi,hx⟩) rfl
   | succ j=>exact ih h2 hi hj (fun z=>hne (by rw[z])) x hx hy
theorem DC.put {i:Nat} {e:En} {o':Ow} (h:DC t B H c pq kd K0 es) (hi:es[i]?=some e) (ho:nV c kd K0 o') (k:B8 e.ka e.ma e.d H H') (hS:kr t H' e.q e.dx pq e.ka e.ma (mv kd o') o') (hd:H' e.d=some (.dK (dS o'))) :
  DC t B H' c pq kd K0 (es.set i { e with o:=o' }):=by
 have he:=List.mem_of_getElem? hi
 have hil:=(List.getElem?_eq_some_iff.mp hi).1
 have f1:=h.fr e he
 have hfl:(es.set i { e with o:=o' }).flatMap En.mC=es.flatMap En.mC:=by
  rw[List.flatMap_def,List.flatMap_def,List.map_set]
  congr 1
  apply List.ext_getElem?
  intro j
  by_cases q:i=j
  ·subst q
   rw[List.getElem?_set_self (by rw[List.length_map];exact hil),List.getElem?_map,hi]
   rfl
  ·rw[List.getElem?_set_ne q]
 have old:∀f∈es.set i { e with o:=o' },f={ e with o:=o' }∨∃j,i≠j∧es[j]?=some f:=fun f hf=>by
  obtain⟨j,hj⟩:=List.mem_iff_getElem?.mp hf
  by_cases q:i=j
  ·subst q
   rw[List.getElem?_set_self hil] at hj
   exact .inl (Option.some.inj hj).symm
  ·rw[List.getElem?_set_ne q] at hj
   exact .inr ⟨j,q,hj⟩
 refine⟨fun b o q=>?_,fun f hf=>?_,fun f hf=>?_,by rw[hfl];exact h.nd,fun f hf=>?_⟩
 ·rw[k b (qx q (f1 _ (by simp [En.mC]))) (qx q (f1 _ (by simp [En.mC]))) (qx q (f1 _ (by simp [En.mC])))]
  exact h.bs b o q
 ·rcases old f hf with rfl | ⟨j,q,hj⟩
  ·exact⟨hS,hd⟩
  ·obtain⟨⟨a1,a2,a3⟩,a4⟩:=h.at' f (List.mem_of_getElem? hj)
   obtain⟨⟨b1,b2,b3⟩,b4⟩:=h.at' e he
   have dis:=KL h.nd hj hi (Ne.symm q)
   have go:∀x∈f.mC,∀u,H x=some u→H' x=some u:=fun x hx u e'=>by
    have:=dis x hx
    simp only[En.mC,List.mem_cons,List.not_mem_nil,or_false,not_or] at this
    rw[k x this.1 this.2.1 this.2.2]
    exact e'
   refine⟨⟨?_,go _ (by simp [En.mC]) _ a2,go _ (by simp [En.mC]) _ a3⟩,go _ (by simp [En.mC]) _ a4⟩
   rw[k f.q (fun z=>by rw[z,b2] at a1;cases a1) (fun z=>by rw[z,b3] at a1;cases a1) (fun z=>by rw[z,b4] at a1;cases a1)]
   exact a1
 ·rcases old f hf with rfl | ⟨j,q,hj⟩
  ·exact ho
  ·exact h.ok f (List.mem_of_getElem? hj)
 ·rcases old f hf with rfl | ⟨j,q,hj⟩
  ·exact f1
  ·exact h.fr f (List.mem_of_getElem? hj)
end
section
variable {P:Program} {w:World} {K:PySem.W.Frag} {mg:Str→Option Value} {base:Heap} {t:jf}
end
structure Kd (t:jf) (B H:Hp) (c:Int) (pq ls lo:Addr) (kd:Str→Str) (K0:Ow) (es:List En):Prop where
 dc:DC t B H c pq kd K0 es
 el:H ls=some (.lst (es.map fun e=>.ref e.q))
 eo:H lo=some (.lst (es.map fun e=>.ref e.d))
 n1:1≤es.length
 n5:es.length≤5
 bl:B ls=none
 bo:B lo=none
 ne:ls≠lo
theorem Kd.same {t:jf} {B H H':Hp} {c:Int} {pq ls lo:Addr} {kd:Str→Str} {K0:Ow} {es:List En} (h:Kd t B H c pq ls lo kd K0 es) (s:qp H H'):Kd t B H' c pq ls lo kd K0 es:=⟨h.dc.same s,s _ _ h.el,s _ _ h.eo,h.n1,h.n5,h.bl,h.bo,h.ne⟩
noncomputable def XU (t:jf):Sp:=fun vs H Q _=>∃(B:Hp) (ls lo p d0 pq:Addr) (cell c:Int) (kd:Str→Str) (K0:Ow) (es:List En) (ps as:List Str) (rms:List (Str × Str)) (rw:Rw),vs=[.ref ls,.ref lo,.ref p,.ref d0,.int cell]∧0≤cell∧cell < 2147483647∧Kd t B H c pq ls lo kd K0 es∧nW B p c ps as rms∧Zb ps as rms∧B d0=some (.dK (dS K0))∧bU t B pq ps as rms rw∧∀H' es',Kd t B H' c pq ls lo kd K0 es'→Q (.bl true) H'
theorem Pj {es:List En} {f:En→V} {k:Int} (h0:0≤k) (h1:k < es.length):∃(i:Nat) (e:En),es[i]?=some e∧uj (es.map f) k=some (f e):=by
 have hi:k.toNat < es.length:=by omega
 refine⟨k.toNat,es[k.toNat],List.getElem?_eq_getElem hi,?_⟩
 have e:=mj (xs:=es.map f) (j:=k.toNat) (v:=f es[k.toNat]) (by rw[List.getElem?_map,List.getElem?_eq_getElem hi];rfl)
 (rw[Int.toNat_of_nonneg h0] at e)
 exact e
theorem Jh {es:List En} {f g:En→V} {k:Int} (h0:0≤k) (h1:k < es.length):∃(i:Nat) (e:En),es[i]?=some e∧uj (es.map f) k=some (f e)∧uj (es.map g) k=some (g e):=by
 have hi:k.toNat < es.length:=by omega
 refine⟨k.toNat,es[k.toNat],List.getElem?_eq_getElem hi,?_,?_⟩
 ·have e:=mj (xs:=es.map f) (j:=k.toNat) (v:=f es[k.toNat]) (by rw[List.getElem?_map,List.getElem?_eq_getElem hi];rfl)
  (rw[Int.toNat_of_nonneg h0] at e)
  exact e
 ·have e:=mj (xs:=es.map g) (j:=k.toNat) (v:=g es[k.toNat]) (by rw[List.getElem?_map,List.getElem?_eq_getElem hi];rfl)
  (rw[Int.toNat_of_nonneg h0] at e)
  exact e
theorem KG {o:Ow}:∀kv∈dS o,∃z,kv.1=.inr z:=fun kv h=>by
 obtain⟨p,_,rfl⟩:=List.mem_map.mp h
 exact⟨p.1,rfl⟩
theorem kr.keeps {t:jf} {H H':Hp} {q dx pq ka ma l:Addr} {ks ms:Ow} {xs:List V} (h:kr t H q dx pq ka ma ks ms) (k:Keeps l H H') (el:H l=some (.lst xs)):kr t H' q dx pq ka ma ks ms:=by
 obtain⟨a1,a2,a3⟩:=h
 exact⟨k.look a1 (fun z=>by rw[z,el] at a1;cases a1),k.look a2 (fun z=>by rw[z,el] at a2;cases a2),k.look a3 (fun z=>by rw[z,el] at a3;cases a3)⟩
theorem rR {L:List Str} {j:Nat} {x:Str} (h:j < L.length):L.getD j x∈L:=by
 rw[List.getD_eq_getElem?_getD,List.getElem?_eq_getElem h]
 exact List.getElem_mem h
theorem WK {es:List En} {e:En} (hn:(es.flatMap En.mC).Nodup) (he:e∈es):e.ka≠e.ma∧e.ka≠e.d∧e.ma≠e.d:=by
 have hs:e.mC.Sublist (es.flatMap En.mC):=List.sublist_flatten_of_mem (List.mem_map.mpr ⟨e,he,rfl⟩)
 have:=hs.nodup hn
 simp only[En.mC,List.nodup_cons,List.mem_cons,List.not_mem_nil,or_false,not_or] at this
 exact⟨this.1.1,this.1.2,this.2.1⟩
section
variable {P:Program} {w:World} {K:PySem.W.Frag} {mg:Str→Option Value} {base:Heap} {t:jf}
seal NZ
theorem kI:qm ["_law_scopes","_law_owns","_law_header_here","_law_kinds_here","_law_cell_here","_law_xs","_law_names_here","_law_words","_law_k","_law_known","_law_value","_law_word"] ["_law_scopes","_law_owns","_law_header_here","_law_kinds_here","_law_cell_here"] (z6 wV):=⟨rfl,rfl,rfl,by decide +kernel,rfl,by decide +kernel,by decide +kernel⟩
set_option maxHeartbeats 400000 in
theorem QP (T:Txt K mg t):qr P w K mg base jy 9 t.dA t.dN ["_law_scopes","_law_owns","_law_header_here","_law_kinds_here","_law_cell_here"] (XU t):=by
 have G_w_bound:qr P w K mg base jy 8 t.mr t.mw ["_law_scope_here","_law_own","_law_name","_law_value"] (Wj t):=(aG T).mono (by decide)
 have G_w_right:qr P w K mg base jy 8 t.bX t.bQ ["_law_scope_here","_law_kinds_here","_law_own","_law_way","_law_word"] (X4 t):=(lM T).mono (by decide)
 have G_w_stream:qr P w K mg base jy 8 t.pf t.pj ["_law_number","_law_many"] Wm:=(eg T).mono (by decide)
 refine T.sZ.fn.ok kI (fun vs H Q E h=>(by obtain⟨_,_,_,_,_,_,_,_,_,_,_,_,_,_,_,rfl,_⟩:=h;rfl)) (fun cdv A outer s H vs Q E hr h=>?_)
 obtain⟨B,ls,lo,p,d0,pq,cell,c,kd,K0,es,ps,as,rms,rw',rfl,c0,c1,hD,hH,hd,e0,hA,k⟩:=h
 have MC:ja P w K mg base jy 8 t.qZ "copied" (Wx t):=.mk' T.pM (uI T) T.bR.bd (by decide)
 refine⟨_,(z7 (qu (i:=5) kI.nd rfl (Or.inl rfl) (qi G_w_stream hr rfl T.mz.mg T.mz.fn.kp T.mz.bd .nil qK (z5 (pv 4) (z5 z9 z8))))
   (z7 (qu (i:=6) kI.nd rfl (Or.inl rfl) (qe (kM (K:=K) rfl) (pv 2) z9 (fun _ _=>rfl)))
   (z7 (qu (i:=7) kI.nd rfl (Or.inl rfl) (x5 (xA (K:=K) rfl) (pv 6) (xJ z9) (xJ z9)))
   (z7 (qu (i:=8) kI.nd rfl (Or.inl rfl) (qg qU (qe (qw (K:=K) rfl) (pv 5) z9 (fun _ _=>rfl)) (qG (qN (K:=K) rfl) rfl T.kg PySem.boot_len (z5 (pv 0) z8))))
   (z7 (qF (qt xj (qg qU (qe (qw (K:=K) rfl) (pv 5) z9 (fun _ _=>rfl)) z9) z9 (qV _))
    (z7 (PS.join (qF (qt ZO (qG (qN (K:=K) rfl) rfl T.kg PySem.boot_len (z5 (pv 0) z8)) z9 (qV _))
    (z7 (jU (vb PySem.F.plainAttrs_list PySem.F.slot_list_append PySem.F.type_list_append kj (pv 0) (z5 (wN hr (qe (qw (K:=K) rfl) (pv 0) (pv 8) (fun _ _=>rfl))) z8)))
   (qz (jU (vb PySem.F.plainAttrs_list PySem.F.slot_list_append PySem.F.type_list_append kj (pv 1) (z5 (kx de rfl T.nB PyProof.Rows.boot_dict (z5 (qe (qw (K:=K) rfl) (pv 1) (pv 8) (fun _ _=>rfl)) z8)) z8))))) ql))
   (qz (qf yr))) ql)
   (z7 (qF (qt ZO (qg qU (qe (qw (K:=K) rfl) (pv 5) z9 (fun _ _=>rfl)) z9) z9 (qV _))
    (z7 (qu (i:=9) kI.nd rfl (Or.inl rfl) (qG (nU rfl) rfl T.ie PyProof.Rows.boot_sorted (z5 (qe (qw (K:=K) rfl) (pv 1) (pv 8) (fun _ _=>rfl)) z8)))
   (z7 (qu (i:=10) kI.nd rfl (Or.inl rfl) (qe (qw (K:=K) rfl) (pv 9) (qg qU (qe (qw (K:=K) rfl) (pv 5) z9 (fun _ _=>rfl)) (qG (qN (K:=K) rfl) rfl T.kg PySem.boot_len (z5 (pv 9) z8))) (fun _ _=>rfl)))
   (z7 (PS.join (qF (qt xj (qg qU (qg xg (qe (qw (K:=K) rfl) (pv 5) z9 (fun _ _=>rfl)) z9) z9) z9 (qV _))
    (qz (qu (i:=10) kI.nd rfl (Or.inl rfl) (qe (qw (K:=K) rfl) (pv 7) (qg qU (qe (qw (K:=K) rfl) (pv 5) z9 (fun _ _=>rfl)) z9) (fun _ _=>rfl)))) ql))
   (qz (qf (qi G_w_bound hr rfl T.cT.mg T.cT.fn.kp T.cT.bd .nil qK (z5 (qe (qw (K:=K) rfl) (pv 0) (pv 8) (fun _ _=>rfl)) (z5 (qe (qw (K:=K) rfl) (pv 1) (pv 8) (fun _ _=>rfl)) (z5 (qe (qw (K:=K) rfl) (pv 7) (qg qU (qe (qw (K:=K) rfl) (pv 5) z9 (fun _ _=>rfl)) z9) (fun _ _=>rfl)) (z5 (pv 10) z8)))))))))) ql)
   (z7 (qu (i:=11) kI.nd rfl (Or.inl rfl) (qe (qw (K:=K) rfl) (pv 7) (qg qU (qe (qw (K:=K) rfl) (pv 5) z9 (fun _ _=>rfl)) z9) (fun _ _=>rfl)))
   (z7 (qF (qt xj (qg qU (qe (qw (K:=K) rfl) (pv 5) z9 (fun _ _=>rfl)) z9) z9 (qV _))
    (qz (qf (qi G_w_right hr rfl T.wB.mg T.wB.fn.kp T.wB.bd .nil qK (z5 (qe (qw (K:=K) rfl) (pv 0) (pv 8) (fun _ _=>rfl)) (z5 (pv 3) (z5 (qe (qw (K:=K) rfl) (pv 1) (pv 8) (fun _ _=>rfl)) (z5 z9 (z5 qk z8)))))))) ql)
   (qz (qf (qi G_w_right hr rfl T.wB.mg T.wB.fn.kp T.wB.bd .nil qK (z5 (qe (qw (K:=K) rfl) (pv 0) (pv 8) (fun _ _=>rfl)) (z5 (pv 3) (z5 (qe (qw (K:=K) rfl) (pv 1) (pv 8) (fun _ _=>rfl)) (z5 (qg qU (qe (qw (K:=K) rfl) (pv 5) z9 (fun _ _=>rfl)) z9) (z5 (pv 11) z8)))))))))))))))),?_⟩
 have hN:=nY c
 obtain⟨M,hM⟩:∃M:Hp→Prop,M=fun H'=>∃es',Kd t B H' c pq ls lo kd K0 es':=⟨_,rfl⟩
 walk_at "rd"
 intro lx H1 xs s1 hlx e1 hlen hb
 have hlen:xs.length=6:=hlen
 have hD1:=hD.same s1
 have hH1:=hH.same hD1.dc.bs
 obtain⟨lp,la,lr,ln,ll,vs,ep,_,_,_,eln,_⟩:=id hH1
 have b0:=rD (j:=Int.toNat 0) 0 hb (by omega)
 have b1:=rD (j:=Int.toNat 1) 0 hb (by omega)
 have b2:=rD (j:=Int.toNat 2) 0 hb (by omega)
 have b3:=rD (j:=Int.toNat 3) 0 hb (by omega)
 have b4:=rD (j:=Int.toNat 4) 0 hb (by omega)
 show jN 5 (V.ref lx) [some (.ref ls),some (.ref lo),some (.ref p),some (.ref d0),some (.int cell),none,none,none,none,none,none,none] _ _
 walk_at "rd"
 intro lw H2 s2 hlw e2
 have e2':H2 lw=some (.lst (((NZ c).take 28).map V.str)):=by
  have:=u7 V.str (NZ c) 0 28 (by omega)
  rw[List.drop_zero,Nat.zero_add] at this
  rw[←this]
  exact e2
 clear e2
 have l28:((NZ c).take 28).length=28:=by rw[List.length_take,hN];rfl
 have hD2:=hD1.same s2
 have e1':=s2 _ _ e1
 have n1:=hD2.n1
 have n5:=hD2.n5
 walk_at "rd"
 refine⟨ls,_,rfl,.inl (qM.of hD2.el),?_⟩
 rw[List.length_map]
 refine⟨_,_,rfl,rfl,(show (0:Int) < (es.length:Int) by omega),?_⟩
 have kk0:0≤xs.getD (Int.toNat 0) 0 % (es.length:Int):=Int.emod_nonneg _ (by omega)
 have kk1:xs.getD (Int.toNat 0) 0 % (es.length:Int) < (es.length:Int):=Int.emod_lt_of_pos _ (by omega)
 show jN 8 (V.int (xs.getD (Int.toNat 0) 0 % (es.length:Int))) [some (.ref ls),some (.ref lo),some (.ref p),some (.ref d0),some (.int cell),some (.ref lx),some (.ref ln),some (.ref lw),none,none,none,none] _ _
 generalize xs.getD (Int.toNat 0) 0 % (es.length:Int)=kk at kk0 kk1 ⊢
 obtain⟨i,e,hi,ha1,ha2⟩:=Jh (f:=fun e=>V.ref e.q) (g:=fun e=>V.ref e.d) kk0 kk1
 have he:=List.mem_of_getElem? hi
 have hE:=hD2.dc.at' e he
 have hO:=hD2.dc.ok e he
 have hol:=hO.len
 refine⟨_,rfl,lx,_,_,_,rfl,rfl,qM.of e1',bu (by decide) (by omega),?_⟩
 generalize xs.getD (Int.toNat 1) 0=x1 at b1 ⊢
 walk_at "rd"
 refine jm (fun h1=>?_) (fun h1=>?_)
 ·show ∃M:L2.St→Hp→Prop,_∧_
  refine⟨fun σ' H'=>(∃es',Kd t B H' c pq ls lo kd K0 es')∨False,?_,?_⟩
  ·refine⟨_,rfl,ls,_,rfl,.inl (qM.of hD2.el),_,_,rfl,rfl,_,rfl,?_⟩
   rw[List.length_map]
   refine jm (fun h2=>?_) (fun h2=>.inl ⟨es,hD2⟩)
   have h2':(es.length:Int) < 5:=of_decide_eq_true h2
   refine⟨_,rfl,.inl ⟨rfl,_,qM.of hD2.el⟩,?_⟩
   refine⟨_,rfl,_,rfl,ls,_,_,_,rfl,rfl,qM.of hD2.el,ha1,?_⟩
   refine⟨e.q,_,e.dx,_,rfl,hE.1.1,T.qI,QG,_,MC,?_⟩
   refine⟨e.q,e.dx,pq,e.ka,e.ma,_,_,ps,as,rms,rw',rfl,hE.1,hA.same hD2.dc.bs,hd,fun q' dx' ka' ma' H3 s3 hS3 hq hka hma hne=>?_⟩
   have el3:=s3 _ _ hD2.el
   refine⟨ls,_,_,rfl,rfl,el3,qv (by rw[List.length_map];omega),?_⟩
   intro H4 k4 e4
   have D4:=(hD2.dc.same s3).keeps k4 el3 hD2.bl
   have S4:=hS3.keeps k4 el3
   have eo4:H4 lo=some (.lst (es.map fun e=>.ref e.d)):=k4.look (s3 _ _ hD2.eo) (Ne.symm hD2.ne)
   have ed4:=(D4.at' e he).2
   refine⟨_,rfl,.inl ⟨rfl,_,qM.of eo4⟩,?_⟩
   refine⟨_,rfl,_,rfl,lo,_,_,_,rfl,rfl,qM.of eo4,ha2,?_⟩
   refine⟨e.d,_,rfl,ed4,?_⟩
   intro d' H5 s5 hd' e5
   have eo5:=s5 _ _ eo4
   refine⟨lo,_,_,rfl,rfl,eo5,qv (by rw[List.length_map];omega),?_⟩
   intro H6 k6 e6
   have D6:=(D4.same s5).keeps k6 eo5 hD2.bo
   have S6:=(S4.same s5).keeps k6 eo5
   have ed6:H6 d'=some (.dK (dS e.o)):=k6.look e5 (fun z=>by rw[z,eo4] at hd';cases hd')
   have nkd:ka'≠d':=qx S4.2.1 hd'
   have nmd:ma'≠d':=qx S4.2.2 hd'
   have hin:∀x∈es.flatMap En.mC,∃u,H2 x=some (.dK u):=fun x hx=>by
    obtain⟨f,hf,hx⟩:=List.mem_flatMap.mp hx
    obtain⟨⟨_,a2,a3⟩,a4⟩:=hD2.dc.at' f hf
    simp only[En.mC,List.mem_cons,List.not_mem_nil,or_false] at hx
    rcases hx with rfl | rfl | rfl
    ·exact⟨_,a2⟩
    ·exact⟨_,a3⟩
    ·exact⟨_,a4⟩
   have hin4:∀x∈es.flatMap En.mC,∃u,H4 x=some (.dK u):=fun x hx=>by
    obtain⟨f,hf,hx⟩:=List.mem_flatMap.mp hx
    obtain⟨⟨_,a2,a3⟩,a4⟩:=D4.at' f hf
    simp only[En.mC,List.mem_cons,List.not_mem_nil,or_false] at hx
    rcases hx with rfl | rfl | rfl
    ·exact⟨_,a2⟩
    ·exact⟨_,a3⟩
    ·exact⟨_,a4⟩
   have D7:=D6.snoc (e:=⟨q',dx',ka',ma',d',e.o⟩) ⟨S6,ed6⟩ hO (by simp only[En.mC,List.nodup_cons,List.mem_cons,List.not_mem_nil,or_false,not_or,not_false_eq_true,List.nodup_nil,and_true];exact⟨⟨hne,nkd⟩,nmd⟩)
    (fun a ha=>by
     simp only[En.mC,List.mem_cons,List.not_mem_nil,or_false] at ha
     rcases ha with rfl | rfl | rfl
     ·exact hD2.dc.bs.free hka
     ·exact hD2.dc.bs.free hma
     ·exact D4.bs.free hd')
    (fun x hx ha=>by
     simp only[En.mC,List.mem_cons,List.not_mem_nil,or_false] at ha
     obtain⟨u,hu⟩:=hin x hx
     obtain⟨u4,hu4⟩:=hin4 x hx
     rcases ha with rfl | rfl | rfl
     ·rw[hka] at hu;cases hu
     ·rw[hma] at hu;cases hu
     ·rw[hd'] at hu4;cases hu4)
   refine .inl ⟨es ++ [⟨q',dx',ka',ma',d',e.o⟩],D7,?_,?_,by rw[List.length_append];omega,by rw[List.length_append];simp only[List.length_cons,List.length_nil];omega,hD2.bl,hD2.bo,hD2.ne⟩
   ·rw[List.map_append]
    exact k6.look (s5 _ _ e4) hD2.ne
   ·rw[List.map_append]
    exact e6
  intro σ' H' q
  obtain⟨es',hD'⟩:=q.resolve_right fun z=>z
  walk_at "rd"
  exact k H' es' hD'
 walk_at "rd"
 generalize hx2:xs.getD (Int.toNat 2) 0=x2 at b2
 generalize hx3:xs.getD (Int.toNat 3) 0=x3 at b3
 generalize hx4:xs.getD (Int.toNat 4) 0=x4 at b4
 have g2:uj (xs.map V.int) 2=some (.int x2):=by rw[←hx2];exact bu (by decide) (by omega)
 have g3:uj (xs.map V.int) 3=some (.int x3):=by rw[←hx3];exact bu (by decide) (by omega)
 have g4:uj (xs.map V.int) 4=some (.int x4):=by rw[←hx4];exact bu (by decide) (by omega)
 have u2:0≤x2 % 28∧x2 % 28 < 28:=⟨Int.emod_nonneg _ (by decide),Int.emod_lt_of_pos _ (by decide)⟩
 have u3:0≤x3 % 28∧x3 % 28 < 28:=⟨Int.emod_nonneg _ (by decide),Int.emod_lt_of_pos _ (by decide)⟩
 have u4:0≤x4 % 28∧x4 % 28 < 28:=⟨Int.emod_nonneg _ (by decide),Int.emod_lt_of_pos _ (by decide)⟩
 have hw:∀{x:Int},0≤x→x < 28→uj (((NZ c).take 28).map V.str) x=some (.str (((NZ c).take 28).getD x.toNat ""))∧((NZ c).take 28).getD x.toNat ""∈(NZ c).take 28:=fun {x} h0 h1=>⟨yI h0 (by omega),rR (by omega)⟩
 clear hx2 hx3 hx4
 refine jm (fun h2=>?_) (fun h2=>?_)
 ·refine⟨_,rfl,_,rfl,lo,_,_,_,rfl,rfl,qM.of hD2.eo,ha2,e.d,_,rfl,hE.2,by rw[hU];omega,KG,fun zs hz=>?_⟩
  intro lz H3 s3 hlz e3
  rw[hU] at hz
  have hzp:0 < zs.length:=by
   rw[hz]
   exact List.length_pos_iff.mpr hO.ne
  have e13:=s3 _ _ e1'
  have ew3:=s3 _ _ e2'
  have hD3:=hD2.same s3
  show jN 9 (V.ref lz) [some (.ref ls),some (.ref lo),some (.ref p),some (.ref d0),some (.int cell),some (.ref lx),some (.ref ln),some (.ref lw),some (.int kk),none,none,none] _ _
  refine⟨_,rfl,_,rfl,lx,_,_,_,rfl,rfl,qM.of e13,g2,_,rfl,lz,_,rfl,.inl (qM.of e3),?_⟩
  rw[List.length_map]
  have v0:0≤x2 % (zs.length:Int):=Int.emod_nonneg _ (by omega)
  have v1:x2 % (zs.length:Int) < (zs.length:Int):=Int.emod_lt_of_pos _ (by omega)
  refine⟨_,_,rfl,rfl,(show (0:Int) < (zs.length:Int) by omega),lz,_,_,_,rfl,rfl,qM.of e3,yI v0 v1,?_⟩
  show jN 10 (V.str (zs.getD (x2 % (zs.length:Int)).toNat "")) [some (.ref ls),some (.ref lo),some (.ref p),some (.ref d0),some (.int cell),some (.ref lx),some (.ref ln),some (.ref lw),some (.int kk),some (.ref lz),none,none] _ _
  generalize zs.getD (x2 % (zs.length:Int)).toNat "" = v0s
  show ∃M:L2.St→Hp→Prop,_∧_
  refine⟨fun σ' H'=>(∃v:Str,σ'=[some (.ref ls),some (.ref lo),some (.ref p),some (.ref d0),some (.int cell),some (.ref lx),some (.ref ln),some (.ref lw),some (.int kk),some (.ref lz),some (.str v),none]∧H'=H3)∨False,?_,?_⟩
  ·refine⟨_,rfl,lx,_,_,_,rfl,rfl,qM.of e13,g2,?_⟩
   walk_at "rd"
   refine jm (fun h3=>?_) (fun h3=>.inl ⟨_,rfl,rfl⟩)
   refine⟨_,rfl,_,rfl,lx,_,_,_,rfl,rfl,qM.of e13,g3,_,_,rfl,rfl,(by show (0:Int) < 28;decide),lw,_,_,_,rfl,rfl,qM.of ew3,(hw u3.1 u3.2).1,?_⟩
   exact .inl ⟨_,rfl,rfl⟩
  intro σ' H' q
  obtain⟨v,rfl,rfl⟩:=q.resolve_right fun z=>z
  clear q
  refine⟨_,rfl,_,rfl,ls,_,_,_,rfl,rfl,qM.of hD3.el,ha1,?_⟩
  refine⟨_,rfl,_,rfl,lo,_,_,_,rfl,rfl,qM.of hD3.eo,ha2,?_⟩
  refine⟨_,rfl,_,rfl,lx,_,_,_,rfl,rfl,qM.of e13,g4,_,_,rfl,rfl,(by show (0:Int) < 28;decide),lw,_,_,_,rfl,rfl,qM.of ew3,(hw u4.1 u4.2).1,?_⟩
  have hnd:=WK hD3.dc.nd he
  have hE3:=hD3.dc.at' e he
  refine⟨_,rfl,kd,e.q,e.dx,pq,e.ka,e.ma,e.d,e.o,_,v,rfl,hE3.1,hE3.2,hnd.1,hnd.2.1,hnd.2.2,by omega,fun _ H4 s4=>k H4 es (hD3.same s4),fun b hb H4 k4 hS4 e4=>?_⟩
  have D4:=hD3.dc.put hi (hO.put (hw u4.1 u4.2).2 hb) k4 hS4 e4
  have hmap:∀f:En→V,(∀o',f { e with o:=o' }=f e)→(es.set i { e with o:=pu e.o (((NZ c).take 28).getD (x4 % 28).toNat "") b }).map f=es.map f:=fun f hf=>by
   rw[List.map_set,hf]
   apply List.ext_getElem?
   intro j
   by_cases q:i=j
   ·subst q
    rw[List.getElem?_set_self (by rw[List.length_map];exact(List.getElem?_eq_some_iff.mp hi).1),List.getElem?_map,hi]
    rfl
   ·rw[List.getElem?_set_ne q]
  have off:∀{l:Addr} {ys:List V},H' l=some (.lst ys)→H4 l=some (.lst ys):=fun {l ys} hy=>by
   rw[k4 l (fun z=>by rw[z,hE3.1.2.1] at hy;cases hy) (fun z=>by rw[z,hE3.1.2.2] at hy;cases hy) (fun z=>by rw[z,hE3.2] at hy;cases hy)]
   exact hy
  refine k H4 _ ⟨D4,?_,?_,by rw[List.length_set];exact n1,by rw[List.length_set];exact n5,hD2.bl,hD2.bo,hD2.ne⟩
  ·rw[hmap (fun e=>.ref e.q) fun _=>rfl]
   exact off hD3.el
  ·rw[hmap (fun e=>.ref e.d) fun _=>rfl]
   exact off hD3.eo
 have e02:=hD2.dc.bs _ _ e0
 refine⟨_,rfl,_,rfl,lx,_,_,_,rfl,rfl,qM.of e1',g2,_,_,rfl,rfl,(by show (0:Int) < 28;decide),lw,_,_,_,rfl,rfl,qM.of e2',(hw u2.1 u2.2).1,?_⟩
 have hwo:He (((NZ c).take 28).getD (x2 % 28).toNat ""):=.inl (ir c _ (List.mem_of_mem_take (hw u2.1 u2.2).2))
 show jN 11 (V.str (((NZ c).take 28).getD (x2 % 28).toNat "")) [some (.ref ls),some (.ref lo),some (.ref p),some (.ref d0),some (.int cell),some (.ref lx),some (.ref ln),some (.ref lw),some (.int kk),none,none,none] _ _
 generalize ((NZ c).take 28).getD (x2 % 28).toNat "" = wd at hwo ⊢
 refine⟨_,rfl,lx,_,_,_,rfl,rfl,qM.of e1',g3,?_⟩
 walk_at "rd"
 refine jm (fun h3=>?_) (fun h3=>?_)
 ·refine⟨_,rfl,_,rfl,ls,_,_,_,rfl,rfl,qM.of hD2.el,ha1,?_⟩
  refine⟨_,rfl,_,rfl,_,rfl,lo,_,_,_,rfl,rfl,qM.of hD2.eo,ha2,?_⟩
  exact⟨kd,e.q,e.dx,pq,e.ka,e.ma,d0,e.d,K0,e.o,0,"any",rfl,by decide,hE.1,e02,hE.2,hO.bs,.inr rfl,fun H3 s3=>k H3 es (hD2.same s3)⟩
 ·refine⟨_,rfl,_,rfl,ls,_,_,_,rfl,rfl,qM.of hD2.el,ha1,?_⟩
  refine⟨_,rfl,_,rfl,_,rfl,lo,_,_,_,rfl,rfl,qM.of hD2.eo,ha2,?_⟩
  refine⟨_,rfl,lx,_,_,_,rfl,rfl,qM.of e1',g3,_,_,rfl,rfl,(by show (0:Int) < 4;decide),?_⟩
  obtain⟨n,hn⟩:=Int.eq_ofNat_of_zero_le (show 0≤x3 % 4 from Int.emod_nonneg _ (by decide))
  have hn4:x3 % 4 < 4:=Int.emod_lt_of_pos _ (by decide)
  refine⟨_,rfl,kd,e.q,e.dx,pq,e.ka,e.ma,d0,e.d,K0,e.o,n,wd,?_,by omega,hE.1,e02,hE.2,hO.bs,hwo,fun H3 s3=>k H3 es (hD2.same s3)⟩
  show [V.ref e.q,V.ref d0,V.ref e.d,V.int (x3 % 4),V.str wd]=_
  rw[hn]
end
theorem tM:∀{rows:List Str} (r:Str),rows≠[]→(Str.join ("; " : Str) (rows ++ [r])).cps.toList=(Str.join ("; " : Str) rows).cps.toList ++ 59 :: 32 :: r.cps.toList
 | [x],r,_=>by
  show (Str.join ("; " : Str) [x,r]).cps.toList=_
  rw[ki,L2.join_one,L2.join_one]
 | x :: y :: rows,r,_=>by
  show (Str.join ("; " : Str) (x :: y :: (rows ++ [r]))).cps.toList=_
  rw[ki,ki,←List.cons_append,tM (rows:=y :: rows) r (by simp)]
  simp
theorem iO:("; let " : Str).cps.toList=59 :: 32 :: (("let" : Str).cps.toList ++ [32])∧(" be " : Str).cps.toList=32 :: (("be" : Str).cps.toList ++ [32]):=by decide +kernel
theorem Qj {rows:List Str} (h:rows≠[]) (a b:Str):Txt.join ("; " : Str) rows ++ ("; let " : Str) ++ a ++ (" be " : Str) ++ b=Txt.join ("; " : Str) (rows ++ [gX ["let",a,"be",b]]):=by
 refine gE ?_
 unfold gX
 rw[cps_append,cps_append,cps_append,cps_append,join_eq,join_eq,join_eq,tM _ h,iO.1,iO.2,xF,xF,xF,L2.join_one]
 simp
theorem Vs {ps as:List Str} {rms:List (Str × Str)} {evs:List Ew} (h:Zb ps as rms) (he:∀e∈evs,e.ok) (hd:Gd 0 evs=some 0) (hn:(rA evs).Nodup) (hl:evs.length≤76):∃rw,fU (rowsOf ps as rms evs)=.ok (ps,as,rms,rw):=by
 have h6:=h.r2
 obtain⟨fr,e1,l1⟩:=XX (i:=2 + rms.length) (fr:=[("whole",[],[])]) (ls:=[]) hd rfl (by decide) (by simpa using hn) (by omega)
 rw[Vl h he,iZ he,e1]
 match fr,l1 with
 | [(a,b,c)],l1=>exact⟨_,rfl⟩
theorem GZ {c:Int} {ps as:List Str} {rms:List (Str × Str)} (h:B6 c ps as rms):nV c (Kr ps as rms) (pF ps as rms) (mQ (pF ps as rms)):=by
 have hk:=bW ps as rms
 have hn:((pF ps as rms).map (·.1)).Nodup:=by rw[hk];exact h.hd.nd
 refine⟨by rw[d8];exact hn,fun n hm=>by rw[d8,hk] at hm;exact h.wd n hm,fun z b hz=>?_,fun z=>?_⟩
 ·obtain⟨p,hp,e⟩:=List.mem_map.mp (GQ hz)
  have e1:p.1=b:=congrArg Prod.snd e
  subst e1
  refine⟨?_,?_⟩
  ·have:=JT hn hp
   unfold Kr
   rw[this]
   rfl
  ·have hm:p.1∈ps ++ as ++ rms.map (·.2):=by rw[←hk];exact List.mem_map_of_mem hp
   exact ir c _ (List.mem_of_mem_take (h.wd _ hm))
 ·have:=congrArg List.length z
  have hp:=h.hd.p1
  unfold mQ pF at this
  rw[List.length_map,List.length_append,List.length_append,List.length_map] at this
  simp only[List.length_nil] at this
  omega
noncomputable def B9 (K:PySem.W.Frag) (t:jf) (ns:List Int) (σ:L2.St) (H:Hp):Prop:=∃(B:Hp) (c:Int) (a p d0 pq ls lo:Addr) (ps as:List Str) (rms:List (Str × Str)) (rw:Rw) (kd:Str→Str) (K0:Ow) (es:List En) (v3 v7 v8:Option V),σ=[some (.ref a),some (.ref p),some (.ref d0),v3,some (.ref pq),some (.ref ls),some (.ref lo),v7,v8]∧qM K B a (ns.map V.int)∧Kd t B H c pq ls lo kd K0 es∧nW B p c ps as rms∧Zb ps as rms∧B d0=some (.dK (dS K0))∧bU t B pq ps as rms rw
noncomputable def XI (K:PySem.W.Frag):Sp:=fun vs H Q _=>∃(a:Addr) (ns:List Int),vs=[.ref a]∧qM K H a (ns.map V.int)∧ns.length≤63∧∀H',Q (.bl true) H'
section
variable {P:Program} {w:World} {K:PySem.W.Frag} {mg:Str→Option Value} {base:Heap} {t:jf}
theorem Xy (T:Txt K mg t):qr P w K mg base jy 9 t.fq t.p8 ["text"] (X2 t):=KS (QB T) fun _ _ _ _ h=>YZ h
seal NZ pF mQ Kr
theorem x6:qm ["_law_script","_law_header_here","_law_kinds_here","_law_text_here","_law_pact","_law_scopes","_law_owns","_law_k","_law_at"] ["_law_script"] (z6 yD):=⟨rfl,rfl,rfl,by decide +kernel,rfl,by decide +kernel,by decide +kernel⟩
set_option maxHeartbeats 2000000 in
theorem Xb (T:Txt K mg t):qr P w K mg base jy 12 t.dE t.u9 ["_law_script"] (XI K):=by
 have G_w_cell:qr P w K mg base jy 11 t.fj t.p9 ["_law_script","_law_k"] (XD K):=(tO T).mono (by decide)
 have G_w_deed:qr P w K mg base jy 11 t.dA t.dN ["_law_scopes","_law_owns","_law_header_here","_law_kinds_here","_law_cell_here"] (XU t):=(QP T).mono (by decide)
 have G_w_header:qr P w K mg base jy 11 t.pb t.pz ["_law_script"] (Ww K):=(ez T).mono (by decide)
 have G_w_kinds:qr P w K mg base jy 11 t.bJ t.bZ ["_law_header_here"] XO:=(lF T).mono (by decide)
 have G_w_right:qr P w K mg base jy 11 t.bX t.bQ ["_law_scope_here","_law_kinds_here","_law_own","_law_way","_law_word"] (X4 t):=(lM T).mono (by decide)
 have G_w_scope:qr P w K mg base jy 11 t.mZ t.mm ["_law_header_here"] Wf:=(aP T).mono (by decide)
 have G_w_text:qr P w K mg base jy 11 t.d6 t.dO ["_law_header_here"] Wd:=(QF T).mono (by decide)
 have G_v_read:qr P w K mg base jy 11 t.fq t.p8 ["text"] (X2 t):=(Xy T).mono (by decide)
 have M_Scope_init:qr P w K mg base jy 10 t.kP t.vR ["self","pact"] (XN t):=(dq T).mono (by decide)
 refine T.Kj.fn.ok x6 (fun vs H Q E h=>(by obtain⟨_,_,rfl,_⟩:=h;rfl)) (fun cdv A outer s H vs Q E hr h=>?_)
 obtain⟨a,ns,rfl,hS,hl,k⟩:=h
 obtain⟨M,hM⟩:∃M:L2.St→Hp→Prop,M=B9 K t ns:=⟨_,rfl⟩
 have mM:∀{σ:L2.St} {H:Hp},B9 K t ns σ H→M σ H:=fun h=>by rw[hM];exact h
 refine⟨_,(z7 (qu (i:=1) x6.nd rfl (Or.inl rfl) (qi G_w_header hr rfl T.f9.mg T.f9.fn.kp T.f9.bd .nil qK (z5 (pv 0) z8)))
   (z7 (qu (i:=2) x6.nd rfl (Or.inl rfl) (qi G_w_kinds hr rfl T.g6.mg T.g6.fn.kp T.g6.bd .nil qK (z5 (pv 1) z8)))
   (z7 (qu (i:=3) x6.nd rfl (Or.inl rfl) (qi G_w_text hr rfl T.w_text.mg T.w_text.fn.kp T.w_text.bd .nil qK (z5 (pv 1) z8)))
   (z7 (PS.join (qF (qt xj (qg qU (qi G_w_cell hr rfl T.kY.mg T.kY.fn.kp T.kY.bd .nil qK (z5 (pv 0) (z5 z9 z8))) z9) z9 (qV _))
    (z7 (qu (i:=3) x6.nd rfl (Or.inl rfl) (qg jZ (qg jZ (qg jZ (qg jZ (pv 3) qk) (qe (qw (K:=K) rfl) (qe (kM (K:=K) rfl) (pv 1) z9 (fun _ _=>rfl)) z9 (fun _ _=>rfl))) qk) (qe (qw (K:=K) rfl) (qe (kM (K:=K) rfl) (pv 1) z9 (fun _ _=>rfl)) z9 (fun _ _=>rfl))))
   (qz (qu (i:=3) x6.nd rfl (Or.inl rfl) (qg jZ (qg jZ (qg jZ (qg jZ (pv 3) qk) (qe (qw (K:=K) rfl) (qe (kM (K:=K) rfl) (pv 1) z9 (fun _ _=>rfl)) z9 (fun _ _=>rfl))) qk) (qe (qw (K:=K) rfl) (qe (kM (K:=K) rfl) (pv 1) z9 (fun _ _=>rfl)) z9 (fun _ _=>rfl)))))) ql))
   (z7 (qu (i:=4) x6.nd rfl (Or.inl rfl) (qi G_v_read hr rfl T.so.mg T.so.fn.kp T.so.bd .nil qK (z5 (pv 3) z8)))
   (z7 (qu (i:=5) x6.nd rfl (Or.inl rfl) (jb (z5 (kU T.cj M_Scope_init hr rfl T.rp T.yO.bd .nil qK (z5 (pv 4) z8)) (z5 (kU T.cj M_Scope_init hr rfl T.rp T.yO.bd .nil qK (z5 (pv 4) z8)) z8))) pY)
   (z7 (qu (i:=6) x6.nd rfl (Or.inl rfl) (jb (z5 (qi G_w_scope hr rfl T.g7.mg T.g7.fn.kp T.g7.bd .nil qK (z5 (pv 1) z8)) (z5 (qi G_w_scope hr rfl T.g7.mg T.g7.fn.kp T.g7.bd .nil qK (z5 (pv 1) z8)) z8))) pY)
   (Z0 (D0:={ nx:=fun _ H0=>Q .non H0,rt:=Q }) (M:=M) (z7 (wZ PassesOwn.never rfl (yL rfl T.gY (z5 z9 z8)) (jr (i:=7) x6.nd rfl (Or.inl rfl))
    (qz (qF (gu (vZ (qi G_w_deed hr rfl T.sZ.mg T.sZ.fn.kp T.sZ.bd .nil qK (z5 (pv 5) (z5 (pv 6) (z5 (pv 1) (z5 (pv 2) (z5 (qi G_w_cell hr rfl T.kY.mg T.kY.fn.kp T.kY.bd .nil qK (z5 (pv 0) (z5 (qg jI z9 (pv 7)) z8))) z8))))))))
    (qz (qf yr)) ql)))
   (Z0 (D0:={ nx:=fun _ H0=>Q .non H0,rt:=Q }) (M:=M) (z7 (wZ PassesOwn.never rfl (yL rfl T.gY (z5 z9 z8)) (jr (i:=7) x6.nd rfl (Or.inl rfl))
    (z7 (qu (i:=8) x6.nd rfl (Or.inl rfl) (qg qU (pv 7) (qG (qN (K:=K) rfl) rfl T.kg PySem.boot_len (z5 (pv 5) z8))))
   (qz (qF (gu (vZ (qi G_w_right hr rfl T.wB.mg T.wB.fn.kp T.wB.bd .nil qK (z5 (qe (qw (K:=K) rfl) (pv 5) (pv 8) (fun _ _=>rfl)) (z5 (pv 2) (z5 (qe (qw (K:=K) rfl) (pv 6) (pv 8) (fun _ _=>rfl)) (z5 (qg qU (qg xg (qg wo (pv 7) z9) z9) z9) (z5 (qe (qw (K:=K) rfl) (qe (kM (K:=K) rfl) (pv 1) z9 (fun _ _=>rfl)) (qg qU (qg wo (pv 7) z9) z9) (fun _ _=>rfl)) z8))))))))
    (qz (qf yr)) ql))))
   (qz (qf yr))) ?c8)) ?c7)))))))),?_⟩
 case c8=>
  intro σ H1 hm
  rw[hM] at hm
  obtain⟨B,c,a,p,d0,pq,ls,lo,ps,as,rms,rw',kd,K0,es,v3,v7,v8,rfl,hB,hD,hH,hd,e0,hA⟩:=hm
  have hN:=nY c
  walk_at "rd"
  refine yR (lo:=0) (n:=(60:Int).toNat) (fun i σ H'=>(∃(v7 v8:Option V),σ=[some (.ref a),some (.ref p),some (.ref d0),v3,some (.ref pq),some (.ref ls),some (.ref lo),v7,v8]∧Kd t B H' c pq ls lo kd K0 es)∨False) (.inl ⟨v7,v8,rfl,hD⟩) ?_ ?_
  ·intro i σ H2 hi q
   obtain⟨w7,w8,rfl,hD2⟩:=q.resolve_right fun z=>z
   clear q
   have hi60:i < 60:=hi
   have n1:=hD2.n1
   rw[Int.zero_add]
   walk_at "rd"
   refine⟨ls,_,rfl,.inl (qM.of hD2.el),?_⟩
   rw[List.length_map]
   refine⟨_,_,rfl,rfl,(show (0:Int) < (es.length:Int) by omega),?_⟩
   have kk0:0≤(i:Int) % (es.length:Int):=Int.emod_nonneg _ (by omega)
   have kk1:(i:Int) % (es.length:Int) < (es.length:Int):=Int.emod_lt_of_pos _ (by omega)
   show jN 8 (V.int ((i:Int) % (es.length:Int))) [some (.ref a),some (.ref p),some (.ref d0),v3,some (.ref pq),some (.ref ls),some (.ref lo),some (.int (i:Int)),w8] _ _
   generalize (i:Int) % (es.length:Int)=kk at kk0 kk1 ⊢
   obtain⟨j,e,hj,ha1,ha2⟩:=Jh (f:=fun e=>V.ref e.q) (g:=fun e=>V.ref e.d) kk0 kk1
   have he:=List.mem_of_getElem? hj
   have hE:=hD2.dc.at' e he
   have hO:=hD2.dc.ok e he
   have hH2:=hH.same hD2.dc.bs
   obtain⟨lp,la,lr,ln,ll,vs,ep,_,_,_,eln,_⟩:=id hH2
   refine⟨_,rfl,_,rfl,ls,_,_,_,rfl,rfl,qM.of hD2.el,ha1,?_⟩
   refine⟨_,rfl,_,rfl,_,rfl,lo,_,_,_,rfl,rfl,qM.of hD2.eo,ha2,?_⟩
   have m0:0≤(i:Int) * 3 / 7 % 4:=Int.emod_nonneg _ (by decide)
   have m1:(i:Int) * 3 / 7 % 4 < 4:=Int.emod_lt_of_pos _ (by decide)
   have m2:0≤(i:Int) * 5 % 28:=Int.emod_nonneg _ (by decide)
   have m3:(i:Int) * 5 % 28 < 28:=Int.emod_lt_of_pos _ (by decide)
   obtain⟨n,hn⟩:=Int.eq_ofNat_of_zero_le m0
   walk_at "rd"
   refine⟨kd,e.q,e.dx,pq,e.ka,e.ma,d0,e.d,K0,e.o,n,(NZ c).getD ((i:Int) * 5 % 28).toNat "",?_,by omega,hE.1,hD2.dc.bs _ _ e0,hE.2,hO.bs,.inl (ir c _ (rR (by omega))),fun H3 s3=>?_⟩
   ·show [V.ref e.q,V.ref d0,V.ref e.d,V.int ((i:Int) * 3 / 7 % 4),V.str ((NZ c).getD ((i:Int) * 5 % 28).toNat "")]=_
    rw[hn]
   walk_at "rd"
   exact .inl ⟨_,_,rfl,hD2.same s3⟩
  intro σ H2 q
  obtain⟨w7,w8,rfl,hD2⟩:=q.resolve_right fun z=>z
  walk_at "rd"
  exact k H2
 case c7=>
  intro σ H1 hm
  rw[hM] at hm
  obtain⟨B,c,a,p,d0,pq,ls,lo,ps,as,rms,rw',kd,K0,es,v3,v7,v8,rfl,hB,hD,hH,hd,e0,hA⟩:=hm
  walk_at "rd"
  refine yR (lo:=0) (n:=(60:Int).toNat) (fun i σ H'=>(∃(es:List En) (v7:Option V),σ=[some (.ref a),some (.ref p),some (.ref d0),v3,some (.ref pq),some (.ref ls),some (.ref lo),v7,v8]∧Kd t B H' c pq ls lo kd K0 es)∨False) (.inl ⟨es,v7,rfl,hD⟩) ?_ ?_
  ·intro i σ H2 hi q
   obtain⟨es2,w7,rfl,hD2⟩:=q.resolve_right fun z=>z
   clear q
   have hi60:i < 60:=hi
   have hB2:=hD2.dc.bs.seq hB
   rw[Int.zero_add]
   walk_at "rd"
   refine⟨a,_,ns,rfl,hB2,by omega,by omega,fun cell c0 c1=>?_⟩
   refine⟨B,ls,lo,p,d0,pq,cell,c,kd,K0,es2,ps,as,rms,rw',rfl,c0,by omega,hD2,hH,hd,e0,hA,fun H3 es3 hD3=>?_⟩
   walk_at "rd"
   exact .inl ⟨es3,_,rfl,hD3⟩
  intro σ H2 q
  obtain⟨es2,w7,rfl,hD2⟩:=q.resolve_right fun z=>z
  walk_at "rd"
  exact mM ⟨B,c,a,p,d0,pq,ls,lo,ps,as,rms,rw',kd,K0,es2,_,_,_,rfl,hB,hD2,hH,hd,e0,hA⟩
 walk_at "rd"
 intro c ps as rms p H1 hZ s1 hp h5
 have hd:=hZ.hd
 show jN 1 (V.ref p) [some (.ref a),none,none,none,none,none,none,none,none] _ _
 walk_at "rd"
 refine⟨p,c,ps,as,rms,rfl,h5,hd,fun d0 H2 s2 hd0 e0=>?_⟩
 have h52:=h5.same s2
 show jN 2 (V.ref d0) [some (.ref a),some (.ref p),none,none,none,none,none,none,none] _ _
 walk_at "rd"
 refine⟨p,c,ps,as,rms,rfl,h52,hd,fun H3 s3=>?_⟩
 have hS3:=((s1.trans s2).trans s3).seq hS
 have h53:=h52.same s3
 show jN 3 (V.str (Txt.join (Str.ofString "; ") (rowsOf ps as rms []))) [some (.ref a),some (.ref p),some (.ref d0),none,none,none,none,none,none] _ _
 show ∃M:L2.St→Hp→Prop,_∧_
 refine⟨fun σ' H'=>(∃evs:List Ew,σ'=[some (.ref a),some (.ref p),some (.ref d0),some (.str (Txt.join (Str.ofString "; ") (rowsOf ps as rms evs))),none,none,none,none,none]∧H'=H3∧(∀e∈evs,e.ok)∧Gd 0 evs=some 0∧rA evs=[]∧evs.length≤2)∨False,?_,?_⟩
 ·walk_at "rd"
  refine⟨a,63,ns,rfl,hS3,by decide,by decide,fun cell c0 c1=>?_⟩
  walk_at "rd"
  refine jm (fun h1=>?_) (fun h1=>.inl ⟨[],rfl,rfl,fun e he=>(by cases he),rfl,rfl,by decide⟩)
  obtain⟨lp,la,lr,ln,ll,vs,ep,elp,ela,_,eln,_⟩:=id h53
  have hN:=nY c
  have p1:=hd.p1;have a1:=hd.a1;have r2:=hd.r2
  have hjs:=fun (evs:List Ew) (he:∀e∈evs,e.ok) (hl:evs.length≤2)=>Nat.le_trans (rT (Str.ofString "; ") (rowsOf ps as rms evs)) (rN (oP hd.w he) (by rw[cP];omega))
  have n1:qX (ps.getD 0 "")=true:=hd.pn _ (rR (by omega))
  have n2:qX (as.getD 0 "")=true:=hd.an _ (rR (by omega))
  have n3:qX ((NZ c).getD 22 "")=true:=ir c _ (rR (by omega))
  have l1:=gg n1
  have l2:=gg n2
  have l3:=gg n3
  have w1:(Str.ofString "; let ").length=6:=by decide +kernel
  have w2:(Str.ofString " be ").length=4:=by decide +kernel
  have big:∀{n:Nat},n≤60000→n≤sizeLine:=fun h=>Nat.le_trans h (by decide +kernel)
  have ok1:∀e∈[Ew.lt ((NZ c).getD 22 "") (ps.getD 0 "")],e.ok:=fun e he=>by rw[List.mem_singleton.mp he];exact⟨n3,n1⟩
  have ok2:∀e∈[Ew.lt ((NZ c).getD 22 "") (ps.getD 0 ""),Ew.lt (ps.getD 0 "") (as.getD 0 "")],e.ok:=fun e he=>by
   (rcases List.mem_cons.mp he with rfl | he)
   ·exact⟨n3,n1⟩
   ·rw[List.mem_singleton.mp he];exact⟨n1,n2⟩
  have j0:=hjs [] (fun e he=>by cases he) (by decide)
  have j1:=hjs _ ok1 (by simp)
  have t1:=Qj (rows:=rowsOf ps as rms []) (by unfold rowsOf;simp) ((NZ c).getD 22 "") (ps.getD 0 "")
  have r1:rowsOf ps as rms [] ++ [gX ["let",(NZ c).getD 22 "","be",ps.getD 0 ""]]=rowsOf ps as rms [Ew.lt ((NZ c).getD 22 "") (ps.getD 0 "")]:=by unfold rowsOf;simp [Ew.row,Ew.ws,gX]
  rw[r1] at t1
  have t2:=Qj (rows:=rowsOf ps as rms [Ew.lt ((NZ c).getD 22 "") (ps.getD 0 "")]) (by unfold rowsOf;simp) (ps.getD 0 "") (as.getD 0 "")
  have r2':rowsOf ps as rms [Ew.lt ((NZ c).getD 22 "") (ps.getD 0 "")] ++ [gX ["let",ps.getD 0 "","be",as.getD 0 ""]]=rowsOf ps as rms [Ew.lt ((NZ c).getD 22 "") (ps.getD 0 ""),Ew.lt (ps.getD 0 "") (as.getD 0 "")]:=by unfold rowsOf;simp [Ew.row,Ew.ws,gX]
  rw[r2'] at t2
  have i22:uj ((NZ c).map V.str) 22=some (.str ((NZ c).getD 22 "")):=yI (by decide) (by omega)
  have ip:uj (ps.map V.str) 0=some (.str (ps.getD 0 "")):=yI (by decide) (by omega)
  have ia:uj (as.map V.str) 0=some (.str (as.getD 0 "")):=yI (by decide) (by omega)
  generalize hx0:Txt.join (Str.ofString "; ") (rowsOf ps as rms [])=X0 at j0 t1 ⊢
  generalize hx1:Txt.join (Str.ofString "; ") (rowsOf ps as rms [Ew.lt ((NZ c).getD 22 "") (ps.getD 0 "")])=X1 at j1 t1 t2
  have t1':X0 ++ Str.ofString "; let " ++ (NZ c).getD 22 "" ++ Str.ofString " be " ++ ps.getD 0 "" = X1:=t1
  have q0:=jD X0 (Str.ofString "; let ")
  have q1:=jD (X0 ++ Str.ofString "; let ") ((NZ c).getD 22 "")
  have q2:=jD (X0 ++ Str.ofString "; let " ++ (NZ c).getD 22 "") (Str.ofString " be ")
  have q3:=jD X1 (Str.ofString "; let ")
  have q4:=jD (X1 ++ Str.ofString "; let ") (ps.getD 0 "")
  have q5:=jD (X1 ++ Str.ofString "; let " ++ ps.getD 0 "") (Str.ofString " be ")
  refine⟨_,rfl,_,_,rfl,rfl,big (by omega),?_⟩
  refine⟨_,rfl,p,_,_,_,rfl,rfl,g9.of ep,rfl,ln,_,_,_,rfl,rfl,qM.of eln,i22,_,_,rfl,rfl,big (by omega),?_⟩
  refine⟨_,_,rfl,rfl,big (by omega),?_⟩
  refine⟨_,rfl,p,_,_,_,rfl,rfl,g9.of ep,rfl,lp,_,_,_,rfl,rfl,qM.of elp,ip,_,_,rfl,rfl,big (by omega),?_⟩
  rw[t1']
  show jN 3 (V.str X1) [some (.ref a),some (.ref p),some (.ref d0),some (.str X0),none,none,none,none,none] _ _
  refine⟨_,rfl,_,_,rfl,rfl,big (by omega),?_⟩
  refine⟨_,rfl,p,_,_,_,rfl,rfl,g9.of ep,rfl,lp,_,_,_,rfl,rfl,qM.of elp,ip,_,_,rfl,rfl,big (by omega),?_⟩
  refine⟨_,_,rfl,rfl,big (by omega),?_⟩
  refine⟨_,rfl,p,_,_,_,rfl,rfl,g9.of ep,rfl,la,_,_,_,rfl,rfl,qM.of ela,ia,_,_,rfl,rfl,big (by omega),?_⟩
  refine .inl ⟨[Ew.lt ((NZ c).getD 22 "") (ps.getD 0 ""),Ew.lt (ps.getD 0 "") (as.getD 0 "")],?_,rfl,ok2,rfl,rfl,by simp⟩
  rw[←t2]
  rfl
 intro σ' H' q
 obtain⟨evs,rfl,rfl,hev,hdp,hlb,hle⟩:=q.resolve_right fun z=>z
 clear q
 obtain⟨rw',hrd⟩:=Vs hd hev hdp (by rw[hlb];exact List.nodup_nil) (by omega)
 walk_at "rd"
 refine⟨rowsOf ps as rms evs,ps,as,rms,rw',rfl,by unfold rowsOf;simp,oP hd.w hev,by rw[cP];have:=hd.r2;omega,hrd,fun pq H4 s4 hA=>?_⟩
 have h54:=h53.same s4
 have hS4:=s4.seq hS3
 have e04:=s4 _ _ (s3 _ _ e0)
 show jN 4 (V.ref pq) [some (.ref a),some (.ref p),some (.ref d0),some (.str (Txt.join (Str.ofString "; ") (rowsOf ps as rms evs))),none,none,none,none,none] _ _
 generalize Txt.join (Str.ofString "; ") (rowsOf ps as rms evs)=tx
 clear hrd hev hdp hlb hle e0 h53 h52 h5 hS3 s1 s2 s3 hp hd0 s4 hS
 have hK:=GZ hZ
 have hmv:=K8 hd
 walk_at "rd"
 intro q1 x1 hq1 hx1 hne1
 have sM1:=wj (o:=HO.own q1) (o2:=HO.ins t.qZ x1 []) hq1 hx1
 refine⟨q1,x1,pq,ps,as,rms,rw',rfl,qy,hA.same sM1,hd,fun H5 k1 m1 o5 hS5 n1 n2 h12=>⟨rfl,?_⟩⟩
 have s5:qp H4 H5:=fu hq1 hx1 o5
 have n1':=sM1.free n1
 have n2':=sM1.free n2
 clear o5 n1 n2 sM1 hq1 hx1 hne1
 refine⟨_,rfl,?_⟩
 intro q2 x2 hq2 hx2 hne2
 have sM2:=wj (o:=HO.own q2) (o2:=HO.ins t.qZ x2 []) hq2 hx2
 refine⟨q2,x2,pq,ps,as,rms,rw',rfl,qy,hA.same (s5.trans sM2),hd,fun H6 k2 m2 o6 hS6 n3 n4 h34=>⟨rfl,?_⟩⟩
 have s6:qp H5 H6:=fu hq2 hx2 o6
 have n3':=sM2.free n3
 have n4':=sM2.free n4
 clear o6 n3 n4 sM2 hq2 hx2 hne2
 refine⟨qv (by show 2≤1000;decide),?_⟩
 intro ls H7 s7 hls els
 have s47:qp H4 H7:=(s5.trans s6).trans s7
 show jN 5 (V.ref ls) [some (.ref a),some (.ref p),some (.ref d0),some (.str tx),some (.ref pq),none,none,none,none] _ _
 walk_at "rd"
 refine⟨p,c,ps,as,rms,rfl,h54.same s47,hd,fun d1 H8 s8 hd1 ed1=>?_⟩
 refine⟨_,rfl,p,c,ps,as,rms,rfl,h54.same (s47.trans s8),hd,fun d2 H9 s9 hd2 ed2=>?_⟩
 refine⟨qv (by show 2≤1000;decide),?_⟩
 intro lo H10 s10 hlo elo
 show jN 6 (V.ref lo) [some (.ref a),some (.ref p),some (.ref d0),some (.str tx),some (.ref pq),some (.ref ls),none,none,none] _ _
 walk_at "rd"
 have s710:qp H7 H10:=(s8.trans s9).trans s10
 have s610:qp H6 H10:=s7.trans s710
 have s510:qp H5 H10:=s6.trans s610
 have s410:qp H4 H10:=s5.trans s510
 have c1:=s7 _ _ (s6 _ _ hS5.2.1)
 have c2:=s7 _ _ (s6 _ _ hS5.2.2)
 have c3:=s7 _ _ hS6.2.1
 have c4:=s7 _ _ hS6.2.2
 have ndA:[k1,m1,d1,k2,m2,d2].Nodup:=by
  have y1:k1≠d1:=qx c1 hd1
  have y2:m1≠d1:=qx c2 hd1
  have y3:k2≠d1:=qx c3 hd1
  have y4:m2≠d1:=qx c4 hd1
  have y5:k1≠d2:=qx (s8 _ _ c1) hd2
  have y6:m1≠d2:=qx (s8 _ _ c2) hd2
  have y7:k2≠d2:=qx (s8 _ _ c3) hd2
  have y8:m2≠d2:=qx (s8 _ _ c4) hd2
  have y9:d1≠d2:=qx ed1 hd2
  have z1:k1≠k2:=qx hS5.2.1 n3'
  have z2:k1≠m2:=qx hS5.2.1 n4'
  have z3:m1≠k2:=qx hS5.2.2 n3'
  have z4:m1≠m2:=qx hS5.2.2 n4'
  simp only[List.nodup_cons,List.mem_cons,List.not_mem_nil,or_false,not_or,not_false_eq_true,List.nodup_nil,and_true]
  exact⟨⟨h12,y1,z1,z2,y5⟩,⟨y2,z3,z4,y6⟩,⟨Ne.symm y3,Ne.symm y4,y9⟩,⟨h34,y7⟩,y8⟩
 have two:∀{F:En→Prop} {e1 e2:En},F e1→F e2→∀e∈[e1,e2],F e:=fun {F e1 e2} f1 f2 e he=>by
  (rcases List.mem_cons.mp he with rfl | he)
  ·exact f1
  ·rw[List.mem_singleton.mp he];exact f2
 refine mM ⟨H4,c,a,p,d0,pq,ls,lo,ps,as,rms,rw',Kr ps as rms,pF ps as rms,[⟨q1,x1,k1,m1,d1,mQ (pF ps as rms)⟩,⟨q2,x2,k2,m2,d2,mQ (pF ps as rms)⟩],_,_,_,rfl,hS4,⟨⟨s410,two ⟨?_,s10 _ _ (s9 _ _ ed1)⟩ ⟨?_,s10 _ _ ed2⟩,two hK hK,ndA,two ?_ ?_⟩,s710 _ _ els,elo,by simp,by simp,(s5.trans s6).free hls,(s47.trans (s8.trans s9)).free hlo,qx ((s8.trans s9) _ _ els) hlo⟩,h54,hd,e04,hA⟩
 ·show kr t H10 q1 x1 pq k1 m1 (mv (Kr ps as rms) (mQ (pF ps as rms))) (mQ (pF ps as rms))
  rw[hmv]
  exact hS5.same s510
 ·show kr t H10 q2 x2 pq k2 m2 (mv (Kr ps as rms) (mQ (pF ps as rms))) (mQ (pF ps as rms))
  rw[hmv]
  exact hS6.same s610
 ·intro x hx
  simp only[En.mC,List.mem_cons,List.not_mem_nil,or_false] at hx
  rcases hx with rfl | rfl | rfl
  ·exact n1'
  ·exact n2'
  ·exact s47.free hd1
 ·intro x hx
  simp only[En.mC,List.mem_cons,List.not_mem_nil,or_false] at hx
  rcases hx with rfl | rfl | rfl
  ·exact s5.free n3'
  ·exact s5.free n4'
  ·exact(s47.trans s8).free hd2
theorem QX (T:Txt K mg t) (s:Shared) (u:Value):BindsTo s t.u9 ⟨[u],[]⟩ [("_law_script",u)]:=by
 obtain⟨oc,od,kV,doc,pm,an,cdv,ct,osl,e,_⟩:=T.Kj.fn.ex
 rw[e]
 exact .of_eq rfl
theorem QK {H:Hp} {a:Addr} {ns:List Int} (hl:ns.length≤63) (_:Jx H) (hS:qM K H a (ns.map V.int)):XI K [.ref a] H (fun v _=>v=.bl true) fun _ _ _=>False:=
 ⟨a,ns,rfl,hS,hl,fun _=>rfl⟩
end
theorem K1:(19:Nat)≤sizeLine:=qv (by decide)
theorem K2 {t0 t1 t2 t3 t4 t5 t6 t7 t8 t9 t10 t11 t12 t13 t14 t15 t16 t17 t18:Tok}:Vals (gU.map V.str) ([.str "acts" t0,.str "any" t1,.str "be" t2,.str "by" t3,.str "calm" t4,.str "done" t5,.str "else" t6,.str "end" t7,.str "in" t8,.str "let" t9,.str "may" t10,.str "must" t11,.str "not" t12,.str "part" t13,.str "parties" t14,.str "rest" t15,.str "sore" t16,.str "to" t17,.str "whole" t18]:List Value):=by
 repeat (first | exact .nil | refine .cons ⟨_,rfl⟩ ?_)
theorem JM:(3:Nat)≤sizeLine:=qv (by decide)
theorem JD {t0 t1 t2:Tok}:Vals (jk.map V.str) ([.str "calm" t0,.str "sore" t1,.str "end" t2]:List Value):=by
 repeat (first | exact .nil | refine .cons ⟨_,rfl⟩ ?_)
set_option maxHeartbeats 4000000 in
theorem YS {K:PySem.W.Frag} {h:Heap} {mg:Str→Option Value} (X:K.In h) (G:h.Ns mainGlobals mg)
  {za zb zc zd ze zf zg zh zi zj zk zl zm zn zo zp zq zr zs zt zu zv zw zx zy zz zA zB zC zD zE zF zG zH zI zJ zK zL zM zN zO zP zQ zR zS zT zU zV zW zX zY zZ zaa zab zac zad zae zaf zag zah zai zaj zak zal zam zan zao zap zaq zar zas zat zau zav zaw zax:Addr}
  {zay zaz:Option Addr} {zaA:Array (Option Value)} {zaB zaC zaD zaE zaF zaG:Value}
  {zaH zaI:Option Addr} {zaJ:Array (Option Value)} {zaK zaL zaM zaN zaO zaP:Value}
  {zaQ zaR:Option Addr} {zaS:Array (Option Value)} {zaT zaU zaV zaW zaX zaY:Value}
  {zaZ zba:Option Addr} {zbb:Array (Option Value)} {zbc zbd zbe zbf zbg zbh:Value}
  {zbi zbj:Option Addr} {zbk:Array (Option Value)} {zbl zbm zbn zbo zbp zbq:Value}
  {zbr zbs:Option Addr} {zbt:Array (Option Value)} {zbu zbv zbw zbx zby zbz:Value}
  {zbA zbB:Option Addr} {zbC:Array (Option Value)} {zbD zbE zbF zbG zbH zbI:Value}
  {zbJ zbK:Option Addr} {zbL:Array (Option Value)} {zbM zbN zbO zbP zbQ zbR:Value}
  {zbS zbT:Option Addr} {zbU:Array (Option Value)} {zbV zbW zbX zbY zbZ zca:Value}
  {zcb zcc:Option Addr} {zcd:Array (Option Value)} {zce zcf zcg zch zci zcj:Value}
  {zck zcl:Option Addr} {zcm:Array (Option Value)} {zcn zco zcp zcq zcr zcs:Value}
  {zct zcu:Option Addr} {zcv:Array (Option Value)} {zcw zcx zcy zcz zcA zcB:Value}
  {zcC zcD:Option Addr} {zcE:Array (Option Value)} {zcF zcG zcH zcI zcJ zcK:Value}
  {zcL zcM:Option Addr} {zcN:Array (Option Value)} {zcO zcP zcQ zcR zcS zcT:Value}
  {zcU zcV:Option Addr} {zcW:Array (Option Value)} {zcX zcY zcZ zda zdb zdc:Value}
  {zdd zde:Option Addr} {zdf:Array (Option Value)} {zdg zdh zdi zdj zdk zdl:Value}
  {zdm zdn:Option Addr} {zdo:Array (Option Value)} {zdp zdq zdr zds zdt zdu:Value}
  {zdv zdw:Option Addr} {zdx:Array (Option Value)} {zdy zdz zdA zdB zdC zdD:Value}
  {zdE zdF:Option Addr} {zdG:Array (Option Value)} {zdH zdI zdJ zdK zdL zdM:Value}
  {zdN zdO:Option Addr} {zdP:Array (Option Value)} {zdQ zdR zdS zdT zdU zdV:Value}
  {zdW zdX:Option Addr} {zdY:Array (Option Value)} {zdZ zea zeb zec zed zee:Value}
  {zef zeg:Option Addr} {zeh:Array (Option Value)} {zei zej zek zel zem zen:Value}
  {zeo zep:Option Addr} {zeq:Array (Option Value)} {zer zes zet zeu zev zew:Value}
  {zex zey:Option Addr} {zez:Array (Option Value)} {zeA zeB zeC zeD zeE zeF:Value}
  {zeG zeH:Option Addr} {zeI:Array (Option Value)} {zeJ zeK zeL zeM zeN zeO:Value}
  {zeP zeQ:Option Addr} {zeR:Array (Option Value)} {zeS zeT zeU zeV zeW zeX:Value}
  {zeY zeZ:Option Addr} {zfa:Array (Option Value)} {zfb zfc zfd zfe zff zfg:Value}
  {zfh zfi:Option Addr} {zfj:Array (Option Value)} {zfk zfl zfm zfn zfo zfp:Value}
  {zfq zfr:Option Addr} {zfs:Array (Option Value)} {zft zfu zfv zfw zfx zfy:Value}
  {zfz zfA:Option Addr} {zfB:Array (Option Value)} {zfC zfD zfE zfF zfG zfH:Value}
  {zfI zfJ:Option Addr} {zfK:Array (Option Value)} {zfL zfM zfN zfO zfP zfQ:Value}
  {zfR zfS:Option Addr} {zfT:Array (Option Value)} {zfU zfV zfW zfX zfY zfZ:Value}
  {zga zgb:Option Addr} {zgc:Array (Option Value)} {zgd zge zgf zgg zgh zgi:Value}
  {zgj zgk:Option Addr} {zgl:Array (Option Value)} {zgm zgn zgo zgp zgq zgr:Value}
  {zgs zgt:Option Addr} {zgu:Array (Option Value)} {zgv zgw zgx zgy zgz zgA:Value}
  {zgB zgC:Option Addr} {zgD:Array (Option Value)} {zgE zgF zgG zgH zgI zgJ:Value}
  {zgK zgL:Option Addr} {zgM:Array (Option Value)} {zgN zgO zgP zgQ zgR zgS:Value}
  {zgT zgU:Option Addr} {zgV:Array (Option Value)} {zgW zgX zgY zgZ zha zhb:Value}
  {zhc zhd:Option Addr} {zhe:Array (Option Value)} {zhf zhg zhh zhi zhj zhk:Value}
  {zhl zhm:Option Addr} {zhn:Array (Option Value)} {zho zhp zhq zhr zhs zht:Value}
  {zhu zhv:Option Addr} {zhw:Array (Option Value)} {zhx zhy zhz zhA zhB zhC:Value}
  {zhD zhE:Option Addr} {zhF:Array (Option Value)} {zhG zhH zhI zhJ zhK zhL:Value}
  {zhM zhN:Option Addr} {zhO:Array (Option Value)} {zhP zhQ zhR zhS zhT zhU:Value}
  {zhV zhW:Option Addr} {zhX:Array (Option Value)} {zhY zhZ zia zib zic zid:Value}
  {zie zif:Option Addr} {zig:Array (Option Value)} {zih zii zij zik zil zim:Value}
  {zin zio:Option Addr} {ziq:Array (Option Value)} {zir zis zit ziu ziv ziw:Value}
  {zix ziy:Option Addr} {ziz:Array (Option Value)} {ziA ziB ziC ziD ziE ziF:Value}
  {ziG ziH:Option Addr} {ziI:Array (Option Value)} {ziJ ziK ziL ziM ziN ziO:Value}
  {ziP ziQ:Option Addr} {ziR:Array (Option Value)} {ziS ziT ziU ziV ziW ziX:Value}
  {ziY ziZ:Option Addr} {zja:Array (Option Value)} {zjb zjc zjd zje zjf zjg:Value}
  {zjh zji:Option Addr} {zjj:Array (Option Value)} {zjk zjl zjm zjn zjo zjp:Value}
  {zjq zjr:Option Addr} {zjs:Array (Option Value)} {zjt zju zjv zjw zjx zjy:Value}
  {zjz zjA:Option Addr} {zjB:Array (Option Value)} {zjC zjD zjE zjF zjG zjH:Value}
  {zjI zjJ:Option Addr} {zjK:Array (Option Value)} {zjL zjM zjN zjO zjP zjQ:Value}
  {zjR zjS:Option Addr} {zjT:Array (Option Value)} {zjU zjV zjW zjX zjY zjZ:Value}
  {zka zkb:Option Addr} {zkc:Array (Option Value)} {zkd zke zkf zkg zkh zki:Value}
  {zkj zkk:Option Addr} {zkl:Array (Option Value)} {zkm zkn zko zkp zkq zkr:Value}
  {zks zkt:Option Addr} {zku:Array (Option Value)} {zkv zkw zkx zky zkz zkA:Value}
  {zkB zkC:Option Addr} {zkD:Array (Option Value)} {zkE zkF zkG zkH zkI zkJ:Value}
  {zkK zkL zkM zkN zkO zkP zkQ zkR zkS zkT:Tok}
  {zkU:Obj} {zkV:Obj} {zkW:Obj} {zkX:Obj} {zkY:Obj}
  (zkZ:PySem.W.nsIn K mainGlobals "PactError" = some (some (.ref zah)))
  (zla:PySem.W.nsIn K mainGlobals "NoText" = some (some (.ref zai)))
  (zlb:PySem.W.nsIn K mainGlobals "NoName" = some (some (.ref zaj)))
  (zlc:PySem.W.nsIn K mainGlobals "CalmRoom" = some (some (.ref zak)))
  (zld:PySem.W.nsIn K mainGlobals "Row" = some (some (.ref zal)))
  (zle:PySem.W.nsIn K mainGlobals "Clause" = some (some (.ref zam)))
  (zlf:PySem.W.nsIn K mainGlobals "Duty" = some (some (.ref zan)))
  (zlg:PySem.W.nsIn K mainGlobals "Leave" = some (some (.ref zao)))
  (zlh:PySem.W.nsIn K mainGlobals "Ban" = some (some (.ref zap)))
  (zli:PySem.W.nsIn K mainGlobals "Power" = some (some (.ref zaq)))
  (zlj:PySem.W.nsIn K mainGlobals "Let" = some (some (.ref zar)))
  (zlk:PySem.W.nsIn K mainGlobals "Part" = some (some (.ref zas)))
  (zll:PySem.W.nsIn K mainGlobals "Pact" = some (some (.ref zat)))
  (zlm:PySem.W.nsIn K mainGlobals "Scope" = some (some (.ref zau)))
  (zln:PySem.W.nsIn K mainGlobals "Body" = some (some (.ref zav)))
  (zlo:PySem.W.nsIn K mainGlobals "KEPT" = some (some (.ref zaw)))
  (zlp:PySem.W.nsIn K mainGlobals "LETTERS" = some (some (.str "abcdefghijklmnopqrstuvwxyz" zkK)))
  (zlq:PySem.W.nsIn K mainGlobals "FIGURES" = some (some (.str "0123456789" zkL)))
  (zlr:PySem.W.nsIn K mainGlobals "MOST_LETTERS" = some (some (.int 8 zkM)))
  (zls:PySem.W.nsIn K mainGlobals "MOST_FIGURES" = some (some (.int 20 zkN)))
  (zlt:PySem.W.nsIn K mainGlobals "MARKS" = some (some (.ref zax)))
  (zlu:PySem.W.nsIn K mainGlobals "MOST_ROOMS" = some (some (.int 12 zkO)))
  (zlv:PySem.W.nsIn K mainGlobals "MOST_PARTIES" = some (some (.int 4 zkP)))
  (zlw:PySem.W.nsIn K mainGlobals "MOST_ACTS" = some (some (.int 6 zkQ)))
  (zlx:PySem.W.nsIn K mainGlobals "MOST_ROWS" = some (some (.int 90 zkR)))
  (zly:PySem.W.nsIn K mainGlobals "MOST_OPEN" = some (some (.int 6 zkS)))
  (zlz:PySem.W.nsIn K mainGlobals "FIRST_ROOM" = some (some (.int 2 zkT)))
  (zlA:PySem.W.findIn K (.ref zai) "__init__" = some (some (.ref za)))
  (zlB:K.lookup za=some ⟨zaB,zay,.func (PySem.W.fnOf "__init__" "NoText.__init__" (qj jW) (qq jW) (z6 jW) .none zaC zaD zaE zaz zaF zaG),zaA⟩)
  (zlC:PySem.W.codeIn K zaF "NoText.__init__" = true)
  (zlD:PySem.W.keepIn K (.ref za)=true)
  (zlE:PySem.W.findIn K (.ref zaj) "__init__" = some (some (.ref zb)))
  (zlF:K.lookup zb=some ⟨zaK,zaH,.func (PySem.W.fnOf "__init__" "NoName.__init__" (qj jV) (qq jV) (z6 jV) .none zaL zaM zaN zaI zaO zaP),zaJ⟩)
  (zlG:PySem.W.codeIn K zaO "NoName.__init__" = true)
  (zlH:PySem.W.keepIn K (.ref zb)=true)
  (zlI:PySem.W.findIn K (.ref zak) "__init__" = some (some (.ref zc)))
  (zlJ:K.lookup zc=some ⟨zaT,zaQ,.func (PySem.W.fnOf "__init__" "CalmRoom.__init__" (qj jw) (qq jw) (z6 jw) .none zaU zaV zaW zaR zaX zaY),zaS⟩)
  (zlK:PySem.W.codeIn K zaX "CalmRoom.__init__" = true)
  (zlL:PySem.W.keepIn K (.ref zc)=true)
  (zlM:PySem.W.findIn K (.ref zam) "__init__" = some (some (.ref zd)))
  (zlN:K.lookup zd=some ⟨zbc,zaZ,.func (PySem.W.fnOf "__init__" "Clause.__init__" (qj jK) (qq jK) (z6 jK) .none zbd zbe zbf zba zbg zbh),zbb⟩)
  (zlO:PySem.W.codeIn K zbg "Clause.__init__" = true)
  (zlP:PySem.W.keepIn K (.ref zd)=true)
  (zlQ:PySem.W.findIn K (.ref zam) "number" = some (some (.ref ze)))
  (zlR:K.lookup ze=some ⟨zbl,zbi,.func (PySem.W.fnOf "number" "Clause.number" (qj ji) (qq ji) (z6 ji) .none zbm zbn zbo zbj zbp zbq),zbk⟩)
  (zlS:PySem.W.codeIn K zbp "Clause.number" = true)
  (zlT:PySem.W.keepIn K (.ref ze)=true)
  (zlU:PySem.W.findIn K (.ref zan) "__init__" = some (some (.ref zf)))
  (zlV:K.lookup zf=some ⟨zbu,zbr,.func (PySem.W.fnOf "__init__" "Duty.__init__" (qj xu) (qq xu) (z6 xu) .none zbv zbw zbx zbs zby zbz),zbt⟩)
  (zlW:PySem.W.codeIn K zby "Duty.__init__" = true)
  (zlX:PySem.W.keepIn K (.ref zf)=true)
  (zlY:PySem.W.findIn K (.ref zan) "number" = some (some (.ref zg)))
  (zlZ:K.lookup zg=some ⟨zbD,zbA,.func (PySem.W.fnOf "number" "Duty.number" (qj xx) (qq xx) (z6 xx) .none zbE zbF zbG zbB zbH zbI),zbC⟩)
  (zma:PySem.W.codeIn K zbH "Duty.number" = true)
  (zmb:PySem.W.keepIn K (.ref zg)=true)
  (zmc:PySem.W.findIn K (.ref zap) "__init__" = some (some (.ref zh)))
  (zmd:K.lookup zh=some ⟨zbM,zbJ,.func (PySem.W.fnOf "__init__" "Ban.__init__" (qj xM) (qq xM) (z6 xM) .none zbN zbO zbP zbK zbQ zbR),zbL⟩)
  (zme:PySem.W.codeIn K zbQ "Ban.__init__" = true)
  (zmf:PySem.W.keepIn K (.ref zh)=true)
  (zmg:PySem.W.findIn K (.ref zaq) "__init__" = some (some (.ref zi)))
  (zmh:K.lookup zi=some ⟨zbV,zbS,.func (PySem.W.fnOf "__init__" "Power.__init__" (qj j4) (qq j4) (z6 j4) .none zbW zbX zbY zbT zbZ zca),zbU⟩)
  (zmi:PySem.W.codeIn K zbZ "Power.__init__" = true)
  (zmj:PySem.W.keepIn K (.ref zi)=true)
  (zmk:PySem.W.findIn K (.ref zar) "__init__" = some (some (.ref zj)))
  (zml:K.lookup zj=some ⟨zce,zcb,.func (PySem.W.fnOf "__init__" "Let.__init__" (qj xC) (qq xC) (z6 xC) .none zcf zcg zch zcc zci zcj),zcd⟩)
  (zmm:PySem.W.codeIn K zci "Let.__init__" = true)
  (zmn:PySem.W.keepIn K (.ref zj)=true)
  (zmo:PySem.W.findIn K (.ref zas) "__init__" = some (some (.ref zk)))
  (zmp:K.lookup zk=some ⟨zcn,zck,.func (PySem.W.fnOf "__init__" "Part.__init__" (qj xl) (qq xl) (z6 xl) .none zco zcp zcq zcl zcr zcs),zcm⟩)
  (zmq:PySem.W.codeIn K zcr "Part.__init__" = true)
  (zmr:PySem.W.keepIn K (.ref zk)=true)
  (zms:PySem.W.findIn K (.ref zat) "__init__" = some (some (.ref zl)))
  (zmt:K.lookup zl=some ⟨zcw,zct,.func (PySem.W.fnOf "__init__" "Pact.__init__" (qj xr) (qq xr) (z6 xr) .none zcx zcy zcz zcu zcA zcB),zcv⟩)
  (zmu:PySem.W.codeIn K zcA "Pact.__init__" = true)
  (zmv:PySem.W.keepIn K (.ref zl)=true)
  (zmw:PySem.W.nsIn K mainGlobals "is_name" = some (some (.ref zm)))
  (zmx:K.lookup zm=some ⟨zcF,zcC,.func (PySem.W.fnOf "is_name" "is_name" (qj xt) (qq xt) (z6 xt) .none zcG zcH zcI zcD zcJ zcK),zcE⟩)
  (zmy:PySem.W.codeIn K zcJ "is_name" = true)
  (zmz:PySem.W.keepIn K (.ref zm)=true)
  (zmA:PySem.W.nsIn K mainGlobals "number_of" = some (some (.ref zn)))
  (zmB:K.lookup zn=some ⟨zcO,zcL,.func (PySem.W.fnOf "number_of" "number_of" (qj jB) (qq jB) (z6 jB) .none zcP zcQ zcR zcM zcS zcT),zcN⟩)
  (zmC:PySem.W.codeIn K zcS "number_of" = true)
  (zmD:PySem.W.keepIn K (.ref zn)=true)
  (zmE:PySem.W.nsIn K mainGlobals "written_with" = some (some (.ref zo)))
  (zmF:K.lookup zo=some ⟨zcX,zcU,.func (PySem.W.fnOf "written_with" "written_with" (qj qL) (qq qL) (z6 qL) .none zcY zcZ zda zcV zdb zdc),zcW⟩)
  (zmG:PySem.W.codeIn K zdb "written_with" = true)
  (zmH:PySem.W.keepIn K (.ref zo)=true)
  (zmI:PySem.W.nsIn K mainGlobals "names_of" = some (some (.ref zp)))
  (zmJ:K.lookup zp=some ⟨zdg,zdd,.func (PySem.W.fnOf "names_of" "names_of" (qj j9) (qq j9) (z6 j9) .none zdh zdi zdj zde zdk zdl),zdf⟩)
  (zmK:PySem.W.codeIn K zdk "names_of" = true)
  (zmL:PySem.W.keepIn K (.ref zp)=true)
  (zmM:PySem.W.nsIn K mainGlobals "are_names" = some (some (.ref zq)))
  (zmN:K.lookup zq=some ⟨zdp,zdm,.func (PySem.W.fnOf "are_names" "are_names" (qj jd) (qq jd) (z6 jd) .none zdq zdr zds zdn zdt zdu),zdo⟩)
  (zmO:PySem.W.codeIn K zdt "are_names" = true)
  (zmP:PySem.W.keepIn K (.ref zq)=true)
  (zmQ:PySem.W.nsIn K mainGlobals "room_of" = some (some (.ref zr)))
  (zmR:K.lookup zr=some ⟨zdy,zdv,.func (PySem.W.fnOf "room_of" "room_of" (qj xo) (qq xo) (z6 xo) .none zdz zdA zdB zdw zdC zdD),zdx⟩)
  (zmS:PySem.W.codeIn K zdC "room_of" = true)
  (zmT:PySem.W.keepIn K (.ref zr)=true)
  (zmU:PySem.W.nsIn K mainGlobals "let_of" = some (some (.ref zs)))
  (zmV:K.lookup zs=some ⟨zdH,zdE,.func (PySem.W.fnOf "let_of" "let_of" (qj xU) (qq xU) (z6 xU) .none zdI zdJ zdK zdF zdL zdM),zdG⟩)
  (zmW:PySem.W.codeIn K zdL "let_of" = true)
  (zmX:PySem.W.keepIn K (.ref zs)=true)
  (zmY:PySem.W.nsIn K mainGlobals "part_of" = some (some (.ref zt)))
  (zmZ:K.lookup zt=some ⟨zdQ,zdN,.func (PySem.W.fnOf "part_of" "part_of" (qj xn) (qq xn) (z6 xn) .none zdR zdS zdT zdO zdU zdV),zdP⟩)
  (zna:PySem.W.codeIn K zdU "part_of" = true)
  (znb:PySem.W.keepIn K (.ref zt)=true)
  (znc:PySem.W.nsIn K mainGlobals "clause_of" = some (some (.ref zu)))
  (znd:K.lookup zu=some ⟨zdZ,zdW,.func (PySem.W.fnOf "clause_of" "clause_of" (qj jH) (qq jH) (z6 jH) .none zea zeb zec zdX zed zee),zdY⟩)
  (zne:PySem.W.codeIn K zed "clause_of" = true)
  (znf:PySem.W.keepIn K (.ref zu)=true)
  (zng:PySem.W.nsIn K mainGlobals "fits_form" = some (some (.ref zv)))
  (znh:K.lookup zv=some ⟨zei,zef,.func (PySem.W.fnOf "fits_form" "fits_form" (qj jc) (qq jc) (z6 jc) .none zej zek zel zeg zem zen),zeh⟩)
  (zni:PySem.W.codeIn K zem "fits_form" = true)
  (znj:PySem.W.keepIn K (.ref zv)=true)
  (znk:PySem.W.nsIn K mainGlobals "fits_place" = some (some (.ref zw)))
  (znl:K.lookup zw=some ⟨zer,zeo,.func (PySem.W.fnOf "fits_place" "fits_place" (qj jt) (qq jt) (z6 jt) .none zes zet zeu zep zev zew),zeq⟩)
  (znm:PySem.W.codeIn K zev "fits_place" = true)
  (znn:PySem.W.keepIn K (.ref zw)=true)
  (zno:PySem.W.findIn K (.ref zau) "__init__" = some (some (.ref zx)))
  (znp:K.lookup zx=some ⟨zeA,zex,.func (PySem.W.fnOf "__init__" "Scope.__init__" (qj j7) (qq j7) (z6 j7) .none zeB zeC zeD zey zeE zeF),zez⟩)
  (znq:PySem.W.codeIn K zeE "Scope.__init__" = true)
  (znr:PySem.W.keepIn K (.ref zx)=true)
  (zns:PySem.W.findIn K (.ref zau) "know" = some (some (.ref zy)))
  (znt:K.lookup zy=some ⟨zeJ,zeG,.func (PySem.W.fnOf "know" "Scope.know" (qj j8) (qq j8) (z6 j8) .none zeK zeL zeM zeH zeN zeO),zeI⟩)
  (znu:PySem.W.codeIn K zeN "Scope.know" = true)
  (znv:PySem.W.keepIn K (.ref zy)=true)
  (znw:PySem.W.findIn K (.ref zau) "bind" = some (some (.ref zz)))
  (znx:K.lookup zz=some ⟨zeS,zeP,.func (PySem.W.fnOf "bind" "Scope.bind" (qj j5) (qq j5) (z6 j5) .none zeT zeU zeV zeQ zeW zeX),zeR⟩)
  (zny:PySem.W.codeIn K zeW "Scope.bind" = true)
  (znz:PySem.W.keepIn K (.ref zz)=true)
  (znA:PySem.W.findIn K (.ref zau) "copied" = some (some (.ref zA)))
  (znB:K.lookup zA=some ⟨zfb,zeY,.func (PySem.W.fnOf "copied" "Scope.copied" (qj jl) (qq jl) (z6 jl) .none zfc zfd zfe zeZ zff zfg),zfa⟩)
  (znC:PySem.W.codeIn K zff "Scope.copied" = true)
  (znD:PySem.W.keepIn K (.ref zA)=true)
  (znE:PySem.W.findIn K (.ref zau) "party" = some (some (.ref zB)))
  (znF:K.lookup zB=some ⟨zfk,zfh,.func (PySem.W.fnOf "party" "Scope.party" (qj jG) (qq jG) (z6 jG) .none zfl zfm zfn zfi zfo zfp),zfj⟩)
  (znG:PySem.W.codeIn K zfo "Scope.party" = true)
  (znH:PySem.W.keepIn K (.ref zB)=true)
  (znI:PySem.W.findIn K (.ref zau) "deed" = some (some (.ref zC)))
  (znJ:K.lookup zC=some ⟨zft,zfq,.func (PySem.W.fnOf "deed" "Scope.deed" (qj j6) (qq j6) (z6 j6) .none zfu zfv zfw zfr zfx zfy),zfs⟩)
  (znK:PySem.W.codeIn K zfx "Scope.deed" = true)
  (znL:PySem.W.keepIn K (.ref zC)=true)
  (znM:PySem.W.findIn K (.ref zau) "room_for" = some (some (.ref zD)))
  (znN:K.lookup zD=some ⟨zfC,zfz,.func (PySem.W.fnOf "room_for" "Scope.room_for" (qj q9) (qq q9) (z6 q9) .none zfD zfE zfF zfA zfG zfH),zfB⟩)
  (znO:PySem.W.codeIn K zfG "Scope.room_for" = true)
  (znP:PySem.W.keepIn K (.ref zD)=true)
  (znQ:PySem.W.findIn K (.ref zau) "falls_to" = some (some (.ref zE)))
  (znR:K.lookup zE=some ⟨zfL,zfI,.func (PySem.W.fnOf "falls_to" "Scope.falls_to" (qj qA) (qq qA) (z6 qA) .none zfM zfN zfO zfJ zfP zfQ),zfK⟩)
  (znS:PySem.W.codeIn K zfP "Scope.falls_to" = true)
  (znT:PySem.W.keepIn K (.ref zE)=true)
  (znU:PySem.W.findIn K (.ref zau) "meant" = some (some (.ref zF)))
  (znV:K.lookup zF=some ⟨zfU,zfR,.func (PySem.W.fnOf "meant" "Scope.meant" (qj jY) (qq jY) (z6 jY) .none zfV zfW zfX zfS zfY zfZ),zfT⟩)
  (znW:PySem.W.codeIn K zfY "Scope.meant" = true)
  (znX:PySem.W.keepIn K (.ref zF)=true)
  (znY:PySem.W.nsIn K mainGlobals "read" = some (some (.ref zG)))
  (znZ:K.lookup zG=some ⟨zgd,zga,.func (PySem.W.fnOf "read" "read" (qj wX) (qq wX) (z6 wX) .none zge zgf zgg zgb zgh zgi),zgc⟩)
  (zoa:PySem.W.codeIn K zgh "read" = true)
  (zob:PySem.W.keepIn K (.ref zG)=true)
  (zoc:PySem.W.nsIn K mainGlobals "read_names" = some (some (.ref zH)))
  (zod:K.lookup zH=some ⟨zgm,zgj,.func (PySem.W.fnOf "read_names" "read_names" (qj jn) (qq jn) (z6 jn) .none zgn zgo zgp zgk zgq zgr),zgl⟩)
  (zoe:PySem.W.codeIn K zgq "read_names" = true)
  (zof:PySem.W.keepIn K (.ref zH)=true)
  (zog:PySem.W.nsIn K mainGlobals "told_once" = some (some (.ref zI)))
  (zoh:K.lookup zI=some ⟨zgv,zgs,.func (PySem.W.fnOf "told_once" "told_once" (qj jP) (qq jP) (z6 jP) .none zgw zgx zgy zgt zgz zgA),zgu⟩)
  (zoi:PySem.W.codeIn K zgz "told_once" = true)
  (zoj:PySem.W.keepIn K (.ref zI)=true)
  (zok:PySem.W.nsIn K mainGlobals "read_rooms" = some (some (.ref zJ)))
  (zol:K.lookup zJ=some ⟨zgE,zgB,.func (PySem.W.fnOf "read_rooms" "read_rooms" (qj jv) (qq jv) (z6 jv) .none zgF zgG zgH zgC zgI zgJ),zgD⟩)
  (zom:PySem.W.codeIn K zgI "read_rooms" = true)
  (zon:PySem.W.keepIn K (.ref zJ)=true)
  (zoo:PySem.W.nsIn K mainGlobals "read_whole" = some (some (.ref zK)))
  (zop:K.lookup zK=some ⟨zgN,zgK,.func (PySem.W.fnOf "read_whole" "read_whole" (qj jo) (qq jo) (z6 jo) .none zgO zgP zgQ zgL zgR zgS),zgM⟩)
  (zoq:PySem.W.codeIn K zgR "read_whole" = true)
  (zor:PySem.W.keepIn K (.ref zK)=true)
  (zos:PySem.W.findIn K (.ref zav) "__init__" = some (some (.ref zL)))
  (zot:K.lookup zL=some ⟨zgW,zgT,.func (PySem.W.fnOf "__init__" "Body.__init__" (qj xm) (qq xm) (z6 xm) .none zgX zgY zgZ zgU zha zhb),zgV⟩)
  (zou:PySem.W.codeIn K zha "Body.__init__" = true)
  (zov:PySem.W.keepIn K (.ref zL)=true)
  (zow:PySem.W.findIn K (.ref zav) "many_open" = some (some (.ref zM)))
  (zox:K.lookup zM=some ⟨zhf,zhc,.func (PySem.W.fnOf "many_open" "Body.many_open" (qj qE) (qq qE) (z6 qE) .none zhg zhh zhi zhd zhj zhk),zhe⟩)
  (zoy:PySem.W.codeIn K zhj "Body.many_open" = true)
  (zoz:PySem.W.keepIn K (.ref zM)=true)
  (zoA:PySem.W.findIn K (.ref zav) "takes" = some (some (.ref zN)))
  (zoB:K.lookup zN=some ⟨zho,zhl,.func (PySem.W.fnOf "takes" "Body.takes" (qj jA) (qq jA) (z6 jA) .none zhp zhq zhr zhm zhs zht),zhn⟩)
  (zoC:PySem.W.codeIn K zhs "Body.takes" = true)
  (zoD:PySem.W.keepIn K (.ref zN)=true)
  (zoE:PySem.W.findIn K (.ref zav) "takes_done" = some (some (.ref zO)))
  (zoF:K.lookup zO=some ⟨zhx,zhu,.func (PySem.W.fnOf "takes_done" "Body.takes_done" (qj qS) (qq qS) (z6 qS) .none zhy zhz zhA zhv zhB zhC),zhw⟩)
  (zoG:PySem.W.codeIn K zhB "Body.takes_done" = true)
  (zoH:PySem.W.keepIn K (.ref zO)=true)
  (zoI:PySem.W.findIn K (.ref zav) "takes_head" = some (some (.ref zP)))
  (zoJ:K.lookup zP=some ⟨zhG,zhD,.func (PySem.W.fnOf "takes_head" "Body.takes_head" (qj qT) (qq qT) (z6 qT) .none zhH zhI zhJ zhE zhK zhL),zhF⟩)
  (zoK:PySem.W.codeIn K zhK "Body.takes_head" = true)
  (zoL:PySem.W.keepIn K (.ref zP)=true)
  (zoM:PySem.W.findIn K (.ref zav) "takes_clause" = some (some (.ref zQ)))
  (zoN:K.lookup zQ=some ⟨zhP,zhM,.func (PySem.W.fnOf "takes_clause" "Body.takes_clause" (qj qB) (qq qB) (z6 qB) .none zhQ zhR zhS zhN zhT zhU),zhO⟩)
  (zoO:PySem.W.codeIn K zhT "Body.takes_clause" = true)
  (zoP:PySem.W.keepIn K (.ref zQ)=true)
  (zoQ:PySem.W.findIn K (.ref zav) "put_in" = some (some (.ref zR)))
  (zoR:K.lookup zR=some ⟨zhY,zhV,.func (PySem.W.fnOf "put_in" "Body.put_in" (qj jX) (qq jX) (z6 jX) .none zhZ zia zib zhW zic zid),zhX⟩)
  (zoS:PySem.W.codeIn K zic "Body.put_in" = true)
  (zoT:PySem.W.keepIn K (.ref zR)=true)
  (zoU:PySem.W.findIn K (.ref zav) "closed" = some (some (.ref zS)))
  (zoV:K.lookup zS=some ⟨zih,zie,.func (PySem.W.fnOf "closed" "Body.closed" (qj jJ) (qq jJ) (z6 jJ) .none zii zij zik zif zil zim),zig⟩)
  (zoW:PySem.W.codeIn K zil "Body.closed" = true)
  (zoX:PySem.W.keepIn K (.ref zS)=true)
  (zoY:PySem.W.nsIn K mainGlobals "_law_cell" = some (some (.ref zT)))
  (zoZ:K.lookup zT=some ⟨zir,zin,.func (PySem.W.fnOf "_law_cell" "_law_cell" (qj wK) (qq wK) (z6 wK) .none zis zit ziu zio ziv ziw),ziq⟩)
  (zpa:PySem.W.codeIn K ziv "_law_cell" = true)
  (zpb:PySem.W.keepIn K (.ref zT)=true)
  (zpc:PySem.W.nsIn K mainGlobals "_law_stream" = some (some (.ref zU)))
  (zpd:K.lookup zU=some ⟨ziA,zix,.func (PySem.W.fnOf "_law_stream" "_law_stream" (qj xS) (qq xS) (z6 xS) .none ziB ziC ziD ziy ziE ziF),ziz⟩)
  (zpe:PySem.W.codeIn K ziE "_law_stream" = true)
  (zpf:PySem.W.keepIn K (.ref zU)=true)
  (zpg:PySem.W.nsIn K mainGlobals "_law_names" = some (some (.ref zV)))
  (zph:K.lookup zV=some ⟨ziJ,ziG,.func (PySem.W.fnOf "_law_names" "_law_names" (qj ky) (qq ky) (z6 ky) .none ziK ziL ziM ziH ziN ziO),ziI⟩)
  (zpi:PySem.W.codeIn K ziN "_law_names" = true)
  (zpj:PySem.W.keepIn K (.ref zV)=true)
  (zpk:PySem.W.nsIn K mainGlobals "_law_header" = some (some (.ref zW)))
  (zpl:K.lookup zW=some ⟨ziS,ziP,.func (PySem.W.fnOf "_law_header" "_law_header" (qj xR) (qq xR) (z6 xR) .none ziT ziU ziV ziQ ziW ziX),ziR⟩)
  (zpm:PySem.W.codeIn K ziW "_law_header" = true)
  (zpn:PySem.W.keepIn K (.ref zW)=true)
  (zpo:PySem.W.nsIn K mainGlobals "_law_kinds" = some (some (.ref zX)))
  (zpp:K.lookup zX=some ⟨zjb,ziY,.func (PySem.W.fnOf "_law_kinds" "_law_kinds" (qj kS) (qq kS) (z6 kS) .none zjc zjd zje ziZ zjf zjg),zja⟩)
  (zpq:PySem.W.codeIn K zjf "_law_kinds" = true)
  (zpr:PySem.W.keepIn K (.ref zX)=true)
  (zps:PySem.W.nsIn K mainGlobals "_law_scope" = some (some (.ref zY)))
  (zpt:K.lookup zY=some ⟨zjk,zjh,.func (PySem.W.fnOf "_law_scope" "_law_scope" (qj kO) (qq kO) (z6 kO) .none zjl zjm zjn zji zjo zjp),zjj⟩)
  (zpu:PySem.W.codeIn K zjo "_law_scope" = true)
  (zpv:PySem.W.keepIn K (.ref zY)=true)
  (zpw:PySem.W.nsIn K mainGlobals "_law_text" = some (some (.ref zZ)))
  (zpx:K.lookup zZ=some ⟨zjt,zjq,.func (PySem.W.fnOf "_law_text" "_law_text" (qj wW) (qq wW) (z6 wW) .none zju zjv zjw zjr zjx zjy),zjs⟩)
  (zpy:PySem.W.codeIn K zjx "_law_text" = true)
  (zpz:PySem.W.keepIn K (.ref zZ)=true)
  (zpA:PySem.W.nsIn K mainGlobals "_law_due" = some (some (.ref zaa)))
  (zpB:K.lookup zaa=some ⟨zjC,zjz,.func (PySem.W.fnOf "_law_due" "_law_due" (qj yC) (qq yC) (z6 yC) .none zjD zjE zjF zjA zjG zjH),zjB⟩)
  (zpC:PySem.W.codeIn K zjG "_law_due" = true)
  (zpD:PySem.W.keepIn K (.ref zaa)=true)
  (zpE:PySem.W.nsIn K mainGlobals "_law_means" = some (some (.ref zab)))
  (zpF:K.lookup zab=some ⟨zjL,zjI,.func (PySem.W.fnOf "_law_means" "_law_means" (qj kT) (qq kT) (z6 kT) .none zjM zjN zjO zjJ zjP zjQ),zjK⟩)
  (zpG:PySem.W.codeIn K zjP "_law_means" = true)
  (zpH:PySem.W.keepIn K (.ref zab)=true)
  (zpI:PySem.W.nsIn K mainGlobals "_law_asked" = some (some (.ref zac)))
  (zpJ:K.lookup zac=some ⟨zjU,zjR,.func (PySem.W.fnOf "_law_asked" "_law_asked" (qj kR) (qq kR) (z6 kR) .none zjV zjW zjX zjS zjY zjZ),zjT⟩)
  (zpK:PySem.W.codeIn K zjY "_law_asked" = true)
  (zpL:PySem.W.keepIn K (.ref zac)=true)
  (zpM:PySem.W.nsIn K mainGlobals "_law_right" = some (some (.ref zad)))
  (zpN:K.lookup zad=some ⟨zkd,zka,.func (PySem.W.fnOf "_law_right" "_law_right" (qj kN) (qq kN) (z6 kN) .none zke zkf zkg zkb zkh zki),zkc⟩)
  (zpO:PySem.W.codeIn K zkh "_law_right" = true)
  (zpP:PySem.W.keepIn K (.ref zad)=true)
  (zpQ:PySem.W.nsIn K mainGlobals "_law_bound" = some (some (.ref zae)))
  (zpR:K.lookup zae=some ⟨zkm,zkj,.func (PySem.W.fnOf "_law_bound" "_law_bound" (qj kL) (qq kL) (z6 kL) .none zkn zko zkp zkk zkq zkr),zkl⟩)
  (zpS:PySem.W.codeIn K zkq "_law_bound" = true)
  (zpT:PySem.W.keepIn K (.ref zae)=true)
  (zpU:PySem.W.nsIn K mainGlobals "_law_deed" = some (some (.ref zaf)))
  (zpV:K.lookup zaf=some ⟨zkv,zks,.func (PySem.W.fnOf "_law_deed" "_law_deed" (qj wV) (qq wV) (z6 wV) .none zkw zkx zky zkt zkz zkA),zku⟩)
  (zpW:PySem.W.codeIn K zkz "_law_deed" = true)
  (zpX:PySem.W.keepIn K (.ref zaf)=true)
  (zpY:PySem.W.nsIn K mainGlobals "law" = some (some (.ref zag)))
  (zpZ:K.lookup zag=some ⟨zkE,zkB,.func (PySem.W.fnOf "law" "law" (qj yD) (qq yD) (z6 yD) .none zkF zkG zkH zkC zkI zkJ),zkD⟩)
  (zqa:PySem.W.codeIn K zkI "law" = true)
  (zqb:PySem.W.keepIn K (.ref zag)=true)
  (zqc:PySem.W.nsIn K mainGlobals "list" = some none)
  (zqd:PySem.W.nsIn K mainGlobals "len" = some none)
  (zqe:PySem.W.nsIn K mainGlobals "range" = some none)
  (zqf:PySem.W.nsIn K mainGlobals "all" = some none)
  (zqg:PySem.W.nsIn K mainGlobals "int" = some none)
  (zqh:PySem.W.nsIn K mainGlobals "str" = some none)
  (zqi:PySem.W.nsIn K mainGlobals "isinstance" = some none)
  (zqj:PySem.W.nsIn K mainGlobals "dict" = some none)
  (zqk:PySem.W.nsIn K mainGlobals "sorted" = some none)
  (zql:PySem.W.nsIn K mainGlobals "zip" = some none)
  (zqm:PySem.W.nsIn K mainGlobals "ValueError" = some none)
  (zqn:PySem.W.nsIn K mainGlobals "set" = some none)
  (zqo:K.lookup zaw=some zkU)
  (zqp:∃(its:Array Value) (n:Nat),zkU.cls=.type "tuple"∧zkU.data=.seq its n∧its.size≤sizeLine∧Vals (gU.map V.str) its.toList)
  (zqq:K.lookup zax=some zkV)
  (zqr:∃(its:Array Value) (n:Nat),zkV.cls=.type "tuple"∧zkV.data=.seq its n∧its.size≤sizeLine∧Vals (jk.map V.str) its.toList)
  (zqs:PySem.W.plainGet K zam Str.empty=true)
  (zqt:PySem.W.hasDictIn K zam=true)
  (zqu:PySem.W.plainOver K zam=true)
  (zqv:PySem.W.findIn K (.ref zam) "__setattr__" = some (some (.builtin "object.__setattr__")))
  (zqw:PySem.W.findIn K (.ref zam) "act" = some none)
  (zqx:PySem.W.findIn K (.ref zam) "label" = some none)
  (zqy:PySem.W.findIn K (.ref zam) "room" = some none)
  (zqz:PySem.W.findIn K (.ref zam) "turns" = some none)
  (zqA:PySem.W.findIn K (.ref zam) "who" = some none)
  (zqB:PySem.W.makesIn K zam=true)
  (zqC:PySem.W.findIn K (.ref zam) "__init__" = some (some (.ref zd)))
  (zqD:PySem.W.isFn K (.ref zd)=true)
  (zqE:PySem.W.keepIn K (.ref zam)=true)
  (zqF:PySem.W.plainGet K zan Str.empty=true)
  (zqG:PySem.W.hasDictIn K zan=true)
  (zqH:PySem.W.plainOver K zan=true)
  (zqI:PySem.W.findIn K (.ref zan) "__setattr__" = some (some (.builtin "object.__setattr__")))
  (zqJ:PySem.W.findIn K (.ref zan) "act" = some none)
  (zqK:PySem.W.findIn K (.ref zan) "label" = some none)
  (zqL:PySem.W.findIn K (.ref zan) "room" = some none)
  (zqM:PySem.W.findIn K (.ref zan) "turns" = some none)
  (zqN:PySem.W.findIn K (.ref zan) "who" = some none)
  (zqO:PySem.W.makesIn K zan=true)
  (zqP:PySem.W.findIn K (.ref zan) "__init__" = some (some (.ref zf)))
  (zqQ:PySem.W.isFn K (.ref zf)=true)
  (zqR:PySem.W.keepIn K (.ref zan)=true)
  (zqS:PySem.W.plainGet K zao Str.empty=true)
  (zqT:PySem.W.hasDictIn K zao=true)
  (zqU:PySem.W.plainOver K zao=true)
  (zqV:PySem.W.findIn K (.ref zao) "__setattr__" = some (some (.builtin "object.__setattr__")))
  (zqW:PySem.W.findIn K (.ref zao) "act" = some none)
  (zqX:PySem.W.findIn K (.ref zao) "label" = some none)
  (zqY:PySem.W.findIn K (.ref zao) "room" = some none)
  (zqZ:PySem.W.findIn K (.ref zao) "turns" = some none)
  (zra:PySem.W.findIn K (.ref zao) "who" = some none)
  (zrb:PySem.W.makesIn K zao=true)
  (zrc:PySem.W.findIn K (.ref zao) "__init__" = some (some (.ref zd)))
  (zrd:PySem.W.isFn K (.ref zd)=true)
  (zre:PySem.W.keepIn K (.ref zao)=true)
  (zrf:PySem.W.plainGet K zap Str.empty=true)
  (zrg:PySem.W.hasDictIn K zap=true)
  (zrh:PySem.W.plainOver K zap=true)
  (zri:PySem.W.findIn K (.ref zap) "__setattr__" = some (some (.builtin "object.__setattr__")))
  (zrj:PySem.W.findIn K (.ref zap) "act" = some none)
  (zrk:PySem.W.findIn K (.ref zap) "label" = some none)
  (zrl:PySem.W.findIn K (.ref zap) "room" = some none)
  (zrm:PySem.W.findIn K (.ref zap) "turns" = some none)
  (zrn:PySem.W.findIn K (.ref zap) "who" = some none)
  (zro:PySem.W.makesIn K zap=true)
  (zrp:PySem.W.findIn K (.ref zap) "__init__" = some (some (.ref zh)))
  (zrq:PySem.W.isFn K (.ref zh)=true)
  (zrr:PySem.W.keepIn K (.ref zap)=true)
  (zrs:PySem.W.plainGet K zaq Str.empty=true)
  (zrt:PySem.W.hasDictIn K zaq=true)
  (zru:PySem.W.plainOver K zaq=true)
  (zrv:PySem.W.findIn K (.ref zaq) "__setattr__" = some (some (.builtin "object.__setattr__")))
  (zrw:PySem.W.findIn K (.ref zaq) "act" = some none)
  (zrx:PySem.W.findIn K (.ref zaq) "label" = some none)
  (zry:PySem.W.findIn K (.ref zaq) "room" = some none)
  (zrz:PySem.W.findIn K (.ref zaq) "turns" = some none)
  (zrA:PySem.W.findIn K (.ref zaq) "who" = some none)
  (zrB:PySem.W.makesIn K zaq=true)
  (zrC:PySem.W.findIn K (.ref zaq) "__init__" = some (some (.ref zi)))
  (zrD:PySem.W.isFn K (.ref zi)=true)
  (zrE:PySem.W.keepIn K (.ref zaq)=true)
  (zrF:PySem.W.plainGet K zar Str.empty=true)
  (zrG:PySem.W.hasDictIn K zar=true)
  (zrH:PySem.W.plainOver K zar=true)
  (zrI:PySem.W.findIn K (.ref zar) "__setattr__" = some (some (.builtin "object.__setattr__")))
  (zrJ:PySem.W.findIn K (.ref zar) "name" = some none)
  (zrK:PySem.W.findIn K (.ref zar) "value" = some none)
  (zrL:PySem.W.makesIn K zar=true)
  (zrM:PySem.W.findIn K (.ref zar) "__init__" = some (some (.ref zj)))
  (zrN:PySem.W.isFn K (.ref zj)=true)
  (zrO:PySem.W.keepIn K (.ref zar)=true)
  (zrP:PySem.W.plainGet K zas Str.empty=true)
  (zrQ:PySem.W.hasDictIn K zas=true)
  (zrR:PySem.W.plainOver K zas=true)
  (zrS:PySem.W.findIn K (.ref zas) "__setattr__" = some (some (.builtin "object.__setattr__")))
  (zrT:PySem.W.findIn K (.ref zas) "name" = some none)
  (zrU:PySem.W.findIn K (.ref zas) "rooms" = some none)
  (zrV:PySem.W.findIn K (.ref zas) "rows" = some none)
  (zrW:PySem.W.makesIn K zas=true)
  (zrX:PySem.W.findIn K (.ref zas) "__init__" = some (some (.ref zk)))
  (zrY:PySem.W.isFn K (.ref zk)=true)
  (zrZ:PySem.W.keepIn K (.ref zas)=true)
  (zsa:PySem.W.plainGet K zat Str.empty=true)
  (zsb:PySem.W.hasDictIn K zat=true)
  (zsc:PySem.W.plainOver K zat=true)
  (zsd:PySem.W.findIn K (.ref zat) "__setattr__" = some (some (.builtin "object.__setattr__")))
  (zse:PySem.W.findIn K (.ref zat) "acts" = some none)
  (zsf:PySem.W.findIn K (.ref zat) "parties" = some none)
  (zsg:PySem.W.findIn K (.ref zat) "rooms" = some none)
  (zsh:PySem.W.findIn K (.ref zat) "whole" = some none)
  (zsi:PySem.W.makesIn K zat=true)
  (zsj:PySem.W.findIn K (.ref zat) "__init__" = some (some (.ref zl)))
  (zsk:PySem.W.isFn K (.ref zl)=true)
  (zsl:PySem.W.keepIn K (.ref zat)=true)
  (zsm:PySem.W.plainGet K zau Str.empty=true)
  (zsn:PySem.W.hasDictIn K zau=true)
  (zso:PySem.W.plainOver K zau=true)
  (zsp:PySem.W.findIn K (.ref zau) "__setattr__" = some (some (.builtin "object.__setattr__")))
  (zsq:PySem.W.findIn K (.ref zau) "kinds" = some none)
  (zsr:PySem.W.findIn K (.ref zau) "meanings" = some none)
  (zss:PySem.W.findIn K (.ref zau) "pact" = some none)
  (zst:PySem.W.makesIn K zau=true)
  (zsu:PySem.W.findIn K (.ref zau) "__init__" = some (some (.ref zx)))
  (zsv:PySem.W.isFn K (.ref zx)=true)
  (zsw:PySem.W.keepIn K (.ref zau)=true)
  (zsx:PySem.W.findIn K (.ref zau) "know" = some (some (.ref zy)))
  (zsy:PySem.W.isFn K (.ref zy)=true)
  (zsz:PySem.W.findIn K (.ref zau) "bind" = some (some (.ref zz)))
  (zsA:PySem.W.isFn K (.ref zz)=true)
  (zsB:PySem.W.findIn K (.ref zau) "copied" = some (some (.ref zA)))
  (zsC:PySem.W.isFn K (.ref zA)=true)
  (zsD:PySem.W.findIn K (.ref zau) "party" = some (some (.ref zB)))
  (zsE:PySem.W.isFn K (.ref zB)=true)
  (zsF:PySem.W.findIn K (.ref zau) "deed" = some (some (.ref zC)))
  (zsG:PySem.W.isFn K (.ref zC)=true)
  (zsH:PySem.W.findIn K (.ref zau) "room_for" = some (some (.ref zD)))
  (zsI:PySem.W.isFn K (.ref zD)=true)
  (zsJ:PySem.W.findIn K (.ref zau) "falls_to" = some (some (.ref zE)))
  (zsK:PySem.W.isFn K (.ref zE)=true)
  (zsL:PySem.W.findIn K (.ref zau) "meant" = some (some (.ref zF)))
  (zsM:PySem.W.isFn K (.ref zF)=true)
  (zsN:PySem.W.plainGet K zav Str.empty=true)
  (zsO:PySem.W.hasDictIn K zav=true)
  (zsP:PySem.W.plainOver K zav=true)
  (zsQ:PySem.W.findIn K (.ref zav) "__setattr__" = some (some (.builtin "object.__setattr__")))
  (zsR:PySem.W.findIn K (.ref zav) "bodies" = some none)
  (zsS:PySem.W.findIn K (.ref zav) "heads" = some none)
  (zsT:PySem.W.findIn K (.ref zav) "labels" = some none)
  (zsU:PySem.W.makesIn K zav=true)
  (zsV:PySem.W.findIn K (.ref zav) "__init__" = some (some (.ref zL)))
  (zsW:PySem.W.isFn K (.ref zL)=true)
  (zsX:PySem.W.keepIn K (.ref zav)=true)
  (zsY:PySem.W.findIn K (.ref zav) "many_open" = some (some (.ref zM)))
  (zsZ:PySem.W.isFn K (.ref zM)=true)
  (zta:PySem.W.findIn K (.ref zav) "takes" = some (some (.ref zN)))
  (ztb:PySem.W.isFn K (.ref zN)=true)
  (ztc:PySem.W.findIn K (.ref zav) "takes_done" = some (some (.ref zO)))
  (ztd:PySem.W.isFn K (.ref zO)=true)
  (zte:PySem.W.findIn K (.ref zav) "takes_head" = some (some (.ref zP)))
  (ztf:PySem.W.isFn K (.ref zP)=true)
  (ztg:PySem.W.findIn K (.ref zav) "takes_clause" = some (some (.ref zQ)))
  (zth:PySem.W.isFn K (.ref zQ)=true)
  (zti:PySem.W.findIn K (.ref zav) "put_in" = some (some (.ref zR)))
  (ztj:PySem.W.isFn K (.ref zR)=true)
  (ztk:PySem.W.findIn K (.ref zav) "closed" = some (some (.ref zS)))
  (ztl:PySem.W.isFn K (.ref zS)=true)
  (ztm:K.lookup zai=some zkW)
  (ztn:Y0 zai zkW=true)
  (zto:PySem.W.findIn K (.ref zai) "__setattr__" = some (some (.builtin "object.__setattr__")))
  (ztp:PySem.W.findIn K (.ref zai) "__init__" = some (some (.ref za)))
  (ztq:PySem.W.isFn K (.ref za)=true)
  (ztr:PySem.W.keepIn K (.ref zai)=true)
  (zts:PySem.W.findIn K (.ref zai) "row" = some none)
  (ztt:K.lookup zaj=some zkX)
  (ztu:Y0 zaj zkX=true)
  (ztv:PySem.W.findIn K (.ref zaj) "__setattr__" = some (some (.builtin "object.__setattr__")))
  (ztw:PySem.W.findIn K (.ref zaj) "__getattribute__" = some (some (.builtin "BaseException.__getattribute__")))
  (ztx:PySem.W.findIn K (.ref zaj) "__getattr__" = some none)
  (zty:PySem.W.mroIn K zaj (.type "BaseException")=some true)
  (ztz:PySem.W.hasDictIn K zaj=true)
  (ztA:PySem.W.findIn K (.ref zaj) "__class__" = some (some (.builtin "object.__class__")))
  (ztB:PySem.W.specialIn K (.builtin "object.__class__") "__get__" = some (some (.builtin "getset_descriptor.__get__")))
  (ztC:PySem.W.takesIn K (.builtin "object.__class__")=some true)
  (ztD:PySem.W.mroIn K zaj (.type "object")=some true)
  (ztE:PySem.W.findIn K (.ref zaj) "__init__" = some (some (.ref zb)))
  (ztF:PySem.W.isFn K (.ref zb)=true)
  (ztG:PySem.W.keepIn K (.ref zaj)=true)
  (ztH:PySem.W.findIn K (.ref zaj) "word" = some none)
  (ztI:PySem.W.subIn K (.ref zaj) (.type "BaseException")=some true)
  (ztJ:PySem.W.typeIn K (.ref zaj)=some (.type "type"))
  (ztK:PySem.W.subIn K (.ref zaj) (.ref zaj)=some true)
  (ztL:PySem.W.subIn K (.ref zak) (.type "BaseException")=some true)
  (ztM:PySem.W.typeIn K (.ref zak)=some (.type "type"))
  (ztN:PySem.W.subIn K (.ref zaj) (.ref zak)=some false)
  (ztO:K.lookup zak=some zkY)
  (ztP:Y0 zak zkY=true)
  (ztQ:PySem.W.findIn K (.ref zak) "__setattr__" = some (some (.builtin "object.__setattr__")))
  (ztR:PySem.W.findIn K (.ref zak) "__getattribute__" = some (some (.builtin "BaseException.__getattribute__")))
  (ztS:PySem.W.findIn K (.ref zak) "__getattr__" = some none)
  (ztT:PySem.W.mroIn K zak (.type "BaseException")=some true)
  (ztU:PySem.W.hasDictIn K zak=true)
  (ztV:PySem.W.findIn K (.ref zak) "__class__" = some (some (.builtin "object.__class__")))
  (ztW:PySem.W.specialIn K (.builtin "object.__class__") "__get__" = some (some (.builtin "getset_descriptor.__get__")))
  (ztX:PySem.W.takesIn K (.builtin "object.__class__")=some true)
  (ztY:PySem.W.mroIn K zak (.type "object")=some true)
  (ztZ:PySem.W.findIn K (.ref zak) "__init__" = some (some (.ref zc)))
  (zua:PySem.W.isFn K (.ref zc)=true)
  (zub:PySem.W.keepIn K (.ref zak)=true)
  (zuc:PySem.W.findIn K (.ref zak) "word" = some none)
  (zud:PySem.W.subIn K (.ref zaj) (.type "BaseException")=some true)
  (zue:PySem.W.typeIn K (.ref zaj)=some (.type "type"))
  (zuf:PySem.W.subIn K (.ref zak) (.ref zaj)=some false)
  (zug:PySem.W.subIn K (.ref zak) (.type "BaseException")=some true)
  (zuh:PySem.W.typeIn K (.ref zak)=some (.type "type"))
  (zui:PySem.W.subIn K (.ref zak) (.ref zak)=some true)
  (zuj:PySem.W.specialIn K (.ref zam) "__getattribute__" = some (some (.builtin "type.__getattribute__")))
  (zuk:PySem.W.readsIn K zam (.type "type")=true)
  (zul:PySem.W.findCls K (.ref zam) (.type "type") "__init__" = some (.val (.ref zd)))
  (zum:PySem.W.specialIn K (.ref zao) "__getattribute__" = some (some (.builtin "type.__getattribute__")))
  (zun:PySem.W.readsIn K zao (.type "type")=true)
  (zuo:PySem.W.findCls K (.ref zao) (.type "type") "__init__" = some (.val (.ref zd)))
  (zup:PySem.W.kitOne K (.ref zaj) (.type "ValueError")=some true)
  : ∃t:jf,Txt K mg t∧mg "law" = some (.ref t.dE):=by
 have F_NoText_init:=qQ (st:=jW) zlB zlC zlD
 have B_NoText_init:=F_NoText_init.binds (ps:=["self","row"]) fun _ _ _ _ _ _ us hl=>match us,hl with | [_,_],_=>rfl
 have F_NoName_init:=qQ (st:=jV) zlF zlG zlH
 have B_NoName_init:=F_NoName_init.binds (ps:=["self","word"]) fun _ _ _ _ _ _ us hl=>match us,hl with | [_,_],_=>rfl
 have F_CalmRoom_init:=qQ (st:=jw) zlJ zlK zlL
 have B_CalmRoom_init:=F_CalmRoom_init.binds (ps:=["self","word"]) fun _ _ _ _ _ _ us hl=>match us,hl with | [_,_],_=>rfl
 have F_Clause_init:=qQ (st:=jK) zlN zlO zlP
 have B_Clause_init:=F_Clause_init.binds (ps:=["self","label","who","act"]) fun _ _ _ _ _ _ us hl=>match us,hl with | [_,_,_,_],_=>rfl
 have F_Clause_number:=qQ (st:=ji) zlR zlS zlT
 have B_Clause_number:=F_Clause_number.binds (ps:=["self"]) fun _ _ _ _ _ _ us hl=>match us,hl with | [_],_=>rfl
 have F_Duty_init:=qQ (st:=xu) zlV zlW zlX
 have B_Duty_init:=F_Duty_init.binds (ps:=["self","label","who","act","turns","room"]) fun _ _ _ _ _ _ us hl=>match us,hl with | [_,_,_,_,_,_],_=>rfl
 have F_Duty_number:=qQ (st:=xx) zlZ zma zmb
 have B_Duty_number:=F_Duty_number.binds (ps:=["self"]) fun _ _ _ _ _ _ us hl=>match us,hl with | [_],_=>rfl
 have F_Ban_init:=qQ (st:=xM) zmd zme zmf
 have B_Ban_init:=F_Ban_init.binds (ps:=["self","label","who","act","room"]) fun _ _ _ _ _ _ us hl=>match us,hl with | [_,_,_,_,_],_=>rfl
 have F_Power_init:=qQ (st:=j4) zmh zmi zmj
 have B_Power_init:=F_Power_init.binds (ps:=["self","label","who","act","room"]) fun _ _ _ _ _ _ us hl=>match us,hl with | [_,_,_,_,_],_=>rfl
 have F_Let_init:=qQ (st:=xC) zml zmm zmn
 have B_Let_init:=F_Let_init.binds (ps:=["self","name","value"]) fun _ _ _ _ _ _ us hl=>match us,hl with | [_,_,_],_=>rfl
 have F_Part_init:=qQ (st:=xl) zmp zmq zmr
 have B_Part_init:=F_Part_init.binds (ps:=["self","name","rooms","rows"]) fun _ _ _ _ _ _ us hl=>match us,hl with | [_,_,_,_],_=>rfl
 have F_Pact_init:=qQ (st:=xr) zmt zmu zmv
 have B_Pact_init:=F_Pact_init.binds (ps:=["self","parties","acts","rooms","whole"]) fun _ _ _ _ _ _ us hl=>match us,hl with | [_,_,_,_,_],_=>rfl
 have F_v_is_name:=qQ (st:=xt) zmx zmy zmz
 have B_v_is_name:=F_v_is_name.binds (ps:=["word"]) fun _ _ _ _ _ _ us hl=>match us,hl with | [_],_=>rfl
 have F_v_number_of:=qQ (st:=jB) zmB zmC zmD
 have B_v_number_of:=F_v_number_of.binds (ps:=["word"]) fun _ _ _ _ _ _ us hl=>match us,hl with | [_],_=>rfl
 have F_v_written_with:=qQ (st:=qL) zmF zmG zmH
 have B_v_written_with:=F_v_written_with.binds (ps:=["word","signs","most"]) fun _ _ _ _ _ _ us hl=>match us,hl with | [_,_,_],_=>rfl
 have F_v_names_of:=qQ (st:=j9) zmJ zmK zmL
 have B_v_names_of:=F_v_names_of.binds (ps:=["row","word","most"]) fun _ _ _ _ _ _ us hl=>match us,hl with | [_,_,_],_=>rfl
 have F_v_are_names:=qQ (st:=jd) zmN zmO zmP
 have B_v_are_names:=F_v_are_names.binds (ps:=["words","most"]) fun _ _ _ _ _ _ us hl=>match us,hl with | [_,_],_=>rfl
 have F_v_room_of:=qQ (st:=xo) zmR zmS zmT
 have B_v_room_of:=F_v_room_of.binds (ps:=["row"]) fun _ _ _ _ _ _ us hl=>match us,hl with | [_],_=>rfl
 have F_v_let_of:=qQ (st:=xU) zmV zmW zmX
 have B_v_let_of:=F_v_let_of.binds (ps:=["row"]) fun _ _ _ _ _ _ us hl=>match us,hl with | [_],_=>rfl
 have F_v_part_of:=qQ (st:=xn) zmZ zna znb
 have B_v_part_of:=F_v_part_of.binds (ps:=["row"]) fun _ _ _ _ _ _ us hl=>match us,hl with | [_],_=>rfl
 have F_v_clause_of:=qQ (st:=jH) znd zne znf
 have B_v_clause_of:=F_v_clause_of.binds (ps:=["row"]) fun _ _ _ _ _ _ us hl=>match us,hl with | [_],_=>rfl
 have F_v_fits_form:=qQ (st:=jc) znh zni znj
 have B_v_fits_form:=F_v_fits_form.binds (ps:=["words","form"]) fun _ _ _ _ _ _ us hl=>match us,hl with | [_,_],_=>rfl
 have F_v_fits_place:=qQ (st:=jt) znl znm znn
 have B_v_fits_place:=F_v_fits_place.binds (ps:=["word","place"]) fun _ _ _ _ _ _ us hl=>match us,hl with | [_,_],_=>rfl
 have F_Scope_init:=qQ (st:=j7) znp znq znr
 have B_Scope_init:=F_Scope_init.binds (ps:=["self","pact"]) fun _ _ _ _ _ _ us hl=>match us,hl with | [_,_],_=>rfl
 have F_Scope_know:=qQ (st:=j8) znt znu znv
 have B_Scope_know:=F_Scope_know.binds (ps:=["self","name","kind","meaning"]) fun _ _ _ _ _ _ us hl=>match us,hl with | [_,_,_,_],_=>rfl
 have F_Scope_bind:=qQ (st:=j5) znx zny znz
 have B_Scope_bind:=F_Scope_bind.binds (ps:=["self","name","value"]) fun _ _ _ _ _ _ us hl=>match us,hl with | [_,_,_],_=>rfl
 have F_Scope_copied:=qQ (st:=jl) znB znC znD
 have B_Scope_copied:=F_Scope_copied.binds (ps:=["self"]) fun _ _ _ _ _ _ us hl=>match us,hl with | [_],_=>rfl
 have F_Scope_party:=qQ (st:=jG) znF znG znH
 have B_Scope_party:=F_Scope_party.binds (ps:=["self","word"]) fun _ _ _ _ _ _ us hl=>match us,hl with | [_,_],_=>rfl
 have F_Scope_deed:=qQ (st:=j6) znJ znK znL
 have B_Scope_deed:=F_Scope_deed.binds (ps:=["self","word"]) fun _ _ _ _ _ _ us hl=>match us,hl with | [_,_],_=>rfl
 have F_Scope_room_for:=qQ (st:=q9) znN znO znP
 have B_Scope_room_for:=F_Scope_room_for.binds (ps:=["self","word"]) fun _ _ _ _ _ _ us hl=>match us,hl with | [_,_],_=>rfl
 have F_Scope_falls_to:=qQ (st:=qA) znR znS znT
 have B_Scope_falls_to:=F_Scope_falls_to.binds (ps:=["self","word"]) fun _ _ _ _ _ _ us hl=>match us,hl with | [_,_],_=>rfl
 have F_Scope_meant:=qQ (st:=jY) znV znW znX
 have B_Scope_meant:=F_Scope_meant.binds (ps:=["self","word","kinds"]) fun _ _ _ _ _ _ us hl=>match us,hl with | [_,_,_],_=>rfl
 have F_v_read:=qQ (st:=wX) znZ zoa zob
 have B_v_read:=F_v_read.binds (ps:=["text"]) fun _ _ _ _ _ _ us hl=>match us,hl with | [_],_=>rfl
 have F_v_read_names:=qQ (st:=jn) zod zoe zof
 have B_v_read_names:=F_v_read_names.binds (ps:=["rows","number","word","most","taken"]) fun _ _ _ _ _ _ us hl=>match us,hl with | [_,_,_,_,_],_=>rfl
 have F_v_told_once:=qQ (st:=jP) zoh zoi zoj
 have B_v_told_once:=F_v_told_once.binds (ps:=["names"]) fun _ _ _ _ _ _ us hl=>match us,hl with | [_],_=>rfl
 have F_v_read_rooms:=qQ (st:=jv) zol zom zon
 have B_v_read_rooms:=F_v_read_rooms.binds (ps:=["rows","taken"]) fun _ _ _ _ _ _ us hl=>match us,hl with | [_,_],_=>rfl
 have F_v_read_whole:=qQ (st:=jo) zop zoq zor
 have B_v_read_whole:=F_v_read_whole.binds (ps:=["rows","start"]) fun _ _ _ _ _ _ us hl=>match us,hl with | [_,_],_=>rfl
 have F_Body_init:=qQ (st:=xm) zot zou zov
 have B_Body_init:=F_Body_init.binds (ps:=["self"]) fun _ _ _ _ _ _ us hl=>match us,hl with | [_],_=>rfl
 have F_Body_many_open:=qQ (st:=qE) zox zoy zoz
 have B_Body_many_open:=F_Body_many_open.binds (ps:=["self"]) fun _ _ _ _ _ _ us hl=>match us,hl with | [_],_=>rfl
 have F_Body_takes:=qQ (st:=jA) zoB zoC zoD
 have B_Body_takes:=F_Body_takes.binds (ps:=["self","row"]) fun _ _ _ _ _ _ us hl=>match us,hl with | [_,_],_=>rfl
 have F_Body_takes_done:=qQ (st:=qS) zoF zoG zoH
 have B_Body_takes_done:=F_Body_takes_done.binds (ps:=["self"]) fun _ _ _ _ _ _ us hl=>match us,hl with | [_],_=>rfl
 have F_Body_takes_head:=qQ (st:=qT) zoJ zoK zoL
 have B_Body_takes_head:=F_Body_takes_head.binds (ps:=["self","head"]) fun _ _ _ _ _ _ us hl=>match us,hl with | [_,_],_=>rfl
 have F_Body_takes_clause:=qQ (st:=qB) zoN zoO zoP
 have B_Body_takes_clause:=F_Body_takes_clause.binds (ps:=["self","clause"]) fun _ _ _ _ _ _ us hl=>match us,hl with | [_,_],_=>rfl
 have F_Body_put_in:=qQ (st:=jX) zoR zoS zoT
 have B_Body_put_in:=F_Body_put_in.binds (ps:=["self","row"]) fun _ _ _ _ _ _ us hl=>match us,hl with | [_,_],_=>rfl
 have F_Body_closed:=qQ (st:=jJ) zoV zoW zoX
 have B_Body_closed:=F_Body_closed.binds (ps:=["self"]) fun _ _ _ _ _ _ us hl=>match us,hl with | [_],_=>rfl
 have F_w_cell:=qQ (st:=wK) zoZ zpa zpb
 have B_w_cell:=F_w_cell.binds (ps:=["_law_script","_law_k"]) fun _ _ _ _ _ _ us hl=>match us,hl with | [_,_],_=>rfl
 have F_w_stream:=qQ (st:=xS) zpd zpe zpf
 have B_w_stream:=F_w_stream.binds (ps:=["_law_number","_law_many"]) fun _ _ _ _ _ _ us hl=>match us,hl with | [_,_],_=>rfl
 have F_w_names:=qQ (st:=ky) zph zpi zpj
 have B_w_names:=F_w_names.binds (ps:=["_law_cell_here","_law_many"]) fun _ _ _ _ _ _ us hl=>match us,hl with | [_,_],_=>rfl
 have F_w_header:=qQ (st:=xR) zpl zpm zpn
 have B_w_header:=F_w_header.binds (ps:=["_law_script"]) fun _ _ _ _ _ _ us hl=>match us,hl with | [_],_=>rfl
 have F_w_kinds:=qQ (st:=kS) zpp zpq zpr
 have B_w_kinds:=F_w_kinds.binds (ps:=["_law_header_here"]) fun _ _ _ _ _ _ us hl=>match us,hl with | [_],_=>rfl
 have F_w_scope:=qQ (st:=kO) zpt zpu zpv
 have B_w_scope:=F_w_scope.binds (ps:=["_law_header_here"]) fun _ _ _ _ _ _ us hl=>match us,hl with | [_],_=>rfl
 have F_w_text:=qQ (st:=wW) zpx zpy zpz
 have B_w_text:=F_w_text.binds (ps:=["_law_header_here"]) fun _ _ _ _ _ _ us hl=>match us,hl with | [_],_=>rfl
 have F_w_due:=qQ (st:=yC) zpB zpC zpD
 have B_w_due:=F_w_due.binds (ps:=["_law_kinds_here","_law_scope_here","_law_way","_law_word"]) fun _ _ _ _ _ _ us hl=>match us,hl with | [_,_,_,_],_=>rfl
 have F_w_means:=qQ (st:=kT) zpF zpG zpH
 have B_w_means:=F_w_means.binds (ps:=["_law_scope_here","_law_way","_law_word"]) fun _ _ _ _ _ _ us hl=>match us,hl with | [_,_,_],_=>rfl
 have F_w_asked:=qQ (st:=kR) zpJ zpK zpL
 have B_w_asked:=F_w_asked.binds (ps:=["_law_scope_here","_law_way","_law_word"]) fun _ _ _ _ _ _ us hl=>match us,hl with | [_,_,_],_=>rfl
 have F_w_right:=qQ (st:=kN) zpN zpO zpP
 have B_w_right:=F_w_right.binds (ps:=["_law_scope_here","_law_kinds_here","_law_own","_law_way","_law_word"]) fun _ _ _ _ _ _ us hl=>match us,hl with | [_,_,_,_,_],_=>rfl
 have F_w_bound:=qQ (st:=kL) zpR zpS zpT
 have B_w_bound:=F_w_bound.binds (ps:=["_law_scope_here","_law_own","_law_name","_law_value"]) fun _ _ _ _ _ _ us hl=>match us,hl with | [_,_,_,_],_=>rfl
 have F_w_deed:=qQ (st:=wV) zpV zpW zpX
 have B_w_deed:=F_w_deed.binds (ps:=["_law_scopes","_law_owns","_law_header_here","_law_kinds_here","_law_cell_here"]) fun _ _ _ _ _ _ us hl=>match us,hl with | [_,_,_,_,_],_=>rfl
 have F_v_law:=qQ (st:=yD) zpZ zqa zqb
 have B_v_law:=F_v_law.binds (ps:=["_law_script"]) fun _ _ _ _ _ _ us hl=>match us,hl with | [_],_=>rfl
 refine⟨{ xZ:=za,x8:=PySem.W.fnOf "__init__" "NoText.__init__" (qj jW) (qq jW) (z6 jW) .none zaC zaD zaE zaz zaF zaG,kz:=zb,vj:=PySem.W.fnOf "__init__" "NoName.__init__" (qj jV) (qq jV) (z6 jV) .none zaL zaM zaN zaI zaO zaP,xI:=zc,vo:=PySem.W.fnOf "__init__" "CalmRoom.__init__" (qj jw) (qq jw) (z6 jw) .none zaU zaV zaW zaR zaX zaY,qR:=zd,xa:=PySem.W.fnOf "__init__" "Clause.__init__" (qj jK) (qq jK) (z6 jK) .none zbd zbe zbf zba zbg zbh,pP:=ze,pB:=PySem.W.fnOf "number" "Clause.number" (qj ji) (qq ji) (z6 ji) .none zbm zbn zbo zbj zbp zbq,vW:=zf,gB:=PySem.W.fnOf "__init__" "Duty.__init__" (qj xu) (qq xu) (z6 xu) .none zbv zbw zbx zbs zby zbz,mL:=zg,mR:=PySem.W.fnOf "number" "Duty.number" (qj xx) (qq xx) (z6 xx) .none zbE zbF zbG zbB zbH zbI,wU:=zh,bO:=PySem.W.fnOf "__init__" "Ban.__init__" (qj xM) (qq xM) (z6 xM) .none zbN zbO zbP zbK zbQ zbR,kH:=zi,yV:=PySem.W.fnOf "__init__" "Power.__init__" (qj j4) (qq j4) (z6 j4) .none zbW zbX zbY zbT zbZ zca,gq:=zj,bE:=PySem.W.fnOf "__init__" "Let.__init__" (qj xC) (qq xC) (z6 xC) .none zcf zcg zch zcc zci zcj,ko:=zk,vK:=PySem.W.fnOf "__init__" "Part.__init__" (qj xl) (qq xl) (z6 xl) .none zco zcp zcq zcl zcr zcs,yf:=zl,gP:=PySem.W.fnOf "__init__" "Pact.__init__" (qj xr) (qq xr) (z6 xr) .none zcx zcy zcz zcu zcA zcB,vY:=zm,vV:=PySem.W.fnOf "is_name" "is_name" (qj xt) (qq xt) (z6 xt) .none zcG zcH zcI zcD zcJ zcK,vg:=zn,vk:=PySem.W.fnOf "number_of" "number_of" (qj jB) (qq jB) (z6 jB) .none zcP zcQ zcR zcM zcS zcT,xK:=zo,xX:=PySem.W.fnOf "written_with" "written_with" (qj qL) (qq qL) (z6 qL) .none zcY zcZ zda zcV zdb zdc,yP:=zp,yW:=PySem.W.fnOf "names_of" "names_of" (qj j9) (qq j9) (z6 j9) .none zdh zdi zdj zde zdk zdl,vy:=zq,vx:=PySem.W.fnOf "are_names" "are_names" (qj jd) (qq jd) (z6 jd) .none zdq zdr zds zdn zdt zdu,gC:=zr,gM:=PySem.W.fnOf "room_of" "room_of" (qj xo) (qq xo) (z6 xo) .none zdz zdA zdB zdw zdC zdD,pk:=zs,b9:=PySem.W.fnOf "let_of" "let_of" (qj xU) (qq xU) (z6 xU) .none zdI zdJ zdK zdF zdL zdM,gD:=zt,gF:=PySem.W.fnOf "part_of" "part_of" (qj xn) (qq xn) (z6 xn) .none zdR zdS zdT zdO zdU zdV,yq:=zu,wI:=PySem.W.fnOf "clause_of" "clause_of" (qj jH) (qq jH) (z6 jH) .none zea zeb zec zdX zed zee,kq:=zv,x9:=PySem.W.fnOf "fits_form" "fits_form" (qj jc) (qq jc) (z6 jc) .none zej zek zel zeg zem zen,vI:=zw,vL:=PySem.W.fnOf "fits_place" "fits_place" (qj jt) (qq jt) (z6 jt) .none zes zet zeu zep zev zew,kP:=zx,vR:=PySem.W.fnOf "__init__" "Scope.__init__" (qj j7) (qq j7) (z6 j7) .none zeB zeC zeD zey zeE zeF,yB:=zy,b8:=PySem.W.fnOf "know" "Scope.know" (qj j8) (qq j8) (z6 j8) .none zeK zeL zeM zeH zeN zeO,yG:=zz,bA:=PySem.W.fnOf "bind" "Scope.bind" (qj j5) (qq j5) (z6 j5) .none zeT zeU zeV zeQ zeW zeX,vO:=zA,yA:=PySem.W.fnOf "copied" "Scope.copied" (qj jl) (qq jl) (z6 jl) .none zfc zfd zfe zeZ zff zfg,yz:=zB,bw:=PySem.W.fnOf "party" "Scope.party" (qj jG) (qq jG) (z6 jG) .none zfl zfm zfn zfi zfo zfp,yH:=zC,b7:=PySem.W.fnOf "deed" "Scope.deed" (qj j6) (qq j6) (z6 j6) .none zfu zfv zfw zfr zfx zfy,kF:=zD,wD:=PySem.W.fnOf "room_for" "Scope.room_for" (qj q9) (qq q9) (z6 q9) .none zfD zfE zfF zfA zfG zfH,kB:=zE,wM:=PySem.W.fnOf "falls_to" "Scope.falls_to" (qj qA) (qq qA) (z6 qA) .none zfM zfN zfO zfJ zfP zfQ,w6:=zF,bj:=PySem.W.fnOf "meant" "Scope.meant" (qj jY) (qq jY) (z6 jY) .none zfV zfW zfX zfS zfY zfZ,fq:=zG,p8:=PySem.W.fnOf "read" "read" (qj wX) (qq wX) (z6 wX) .none zge zgf zgg zgb zgh zgi,vE:=zH,vS:=PySem.W.fnOf "read_names" "read_names" (qj jn) (qq jn) (z6 jn) .none zgn zgo zgp zgk zgq zgr,vh:=zI,vw:=PySem.W.fnOf "told_once" "told_once" (qj jP) (qq jP) (z6 jP) .none zgw zgx zgy zgt zgz zgA,vA:=zJ,vT:=PySem.W.fnOf "read_rooms" "read_rooms" (qj jv) (qq jv) (z6 jv) .none zgF zgG zgH zgC zgI zgJ,wz:=zK,vN:=PySem.W.fnOf "read_whole" "read_whole" (qj jo) (qq jo) (z6 jo) .none zgO zgP zgQ zgL zgR zgS,yp:=zL,gH:=PySem.W.fnOf "__init__" "Body.__init__" (qj xm) (qq xm) (z6 xm) .none zgX zgY zgZ zgU zha zhb,kG:=zM,wF:=PySem.W.fnOf "many_open" "Body.many_open" (qj qE) (qq qE) (z6 qE) .none zhg zhh zhi zhd zhj zhk,yY:=zN,bI:=PySem.W.fnOf "takes" "Body.takes" (qj jA) (qq jA) (z6 jA) .none zhp zhq zhr zhm zhs zht,kh:=zO,vC:=PySem.W.fnOf "takes_done" "Body.takes_done" (qj qS) (qq qS) (z6 qS) .none zhy zhz zhA zhv zhB zhC,kf:=zP,vU:=PySem.W.fnOf "takes_head" "Body.takes_head" (qj qT) (qq qT) (z6 qT) .none zhH zhI zhJ zhE zhK zhL,xQ:=zQ,kA:=PySem.W.fnOf "takes_clause" "Body.takes_clause" (qj qB) (qq qB) (z6 qB) .none zhQ zhR zhS zhN zhT zhU,w4:=zR,bq:=PySem.W.fnOf "put_in" "Body.put_in" (qj jX) (qq jX) (z6 jX) .none zhZ zia zib zhW zic zid,wA:=zS,bz:=PySem.W.fnOf "closed" "Body.closed" (qj jJ) (qq jJ) (z6 jJ) .none zii zij zik zif zil zim,fj:=zT,p9:=PySem.W.fnOf "_law_cell" "_law_cell" (qj wK) (qq wK) (z6 wK) .none zis zit ziu zio ziv ziw,pf:=zU,pj:=PySem.W.fnOf "_law_stream" "_law_stream" (qj xS) (qq xS) (z6 xS) .none ziB ziC ziD ziy ziE ziF,mi:=zV,mf:=PySem.W.fnOf "_law_names" "_law_names" (qj ky) (qq ky) (z6 ky) .none ziK ziL ziM ziH ziN ziO,pb:=zW,pz:=PySem.W.fnOf "_law_header" "_law_header" (qj xR) (qq xR) (z6 xR) .none ziT ziU ziV ziQ ziW ziX,bJ:=zX,bZ:=PySem.W.fnOf "_law_kinds" "_law_kinds" (qj kS) (qq kS) (z6 kS) .none zjc zjd zje ziZ zjf zjg,mZ:=zY,mm:=PySem.W.fnOf "_law_scope" "_law_scope" (qj kO) (qq kO) (z6 kO) .none zjl zjm zjn zji zjo zjp,d6:=zZ,dO:=PySem.W.fnOf "_law_text" "_law_text" (qj wW) (qq wW) (z6 wW) .none zju zjv zjw zjr zjx zjy,rq:=zaa,rz:=PySem.W.fnOf "_law_due" "_law_due" (qj yC) (qq yC) (z6 yC) .none zjD zjE zjF zjA zjG zjH,ml:=zab,mh:=PySem.W.fnOf "_law_means" "_law_means" (qj kT) (qq kT) (z6 kT) .none zjM zjN zjO zjJ zjP zjQ,md:=zac,mx:=PySem.W.fnOf "_law_asked" "_law_asked" (qj kR) (qq kR) (z6 kR) .none zjV zjW zjX zjS zjY zjZ,bX:=zad,bQ:=PySem.W.fnOf "_law_right" "_law_right" (qj kN) (qq kN) (z6 kN) .none zke zkf zkg zkb zkh zki,mr:=zae,mw:=PySem.W.fnOf "_law_bound" "_law_bound" (qj kL) (qq kL) (z6 kL) .none zkn zko zkp zkk zkq zkr,dA:=zaf,dN:=PySem.W.fnOf "_law_deed" "_law_deed" (qj wV) (qq wV) (z6 wV) .none zkw zkx zky zkt zkz zkA,dE:=zag,u9:=PySem.W.fnOf "law" "law" (qj yD) (qq yD) (z6 yD) .none zkF zkG zkH zkC zkI zkJ,uX:=zah,yh:=zai,jS:=zaj,ju:=zak,VI:=zal,xT:=zam,yE:=zan,vn:=zao,p5:=zap,vD:=zaq,dD:=zar,jF:=zas,xb:=zat,qZ:=zau,qC:=zav,rO:=zaw,pe:=zax },?_,PySem.W.mg_of X G zpY⟩
 exact {
  xW:=⟨F_NoText_init,B_NoText_init⟩,
  gW:=⟨F_NoName_init,B_NoName_init⟩,
  g8:=⟨F_CalmRoom_init,B_CalmRoom_init⟩,
  vJ:=⟨F_Clause_init,B_Clause_init⟩,
  sV:=⟨F_Clause_number,B_Clause_number⟩,
  cA:=⟨F_Duty_init,B_Duty_init⟩,
  ic:=⟨F_Duty_number,B_Duty_number⟩,
  rW:=⟨F_Ban_init,B_Ban_init⟩,
  dy:=⟨F_Power_init,B_Power_init⟩,
  rG:=⟨F_Let_init,B_Let_init⟩,
  yU:=⟨F_Part_init,B_Part_init⟩,
  c9:=⟨F_Pact_init,B_Pact_init⟩,
  jR:=⟨F_v_is_name,B_v_is_name,PySem.W.mg_of X G zmw⟩,
  xH:=⟨F_v_number_of,B_v_number_of,PySem.W.mg_of X G zmA⟩,
  jC:=⟨F_v_written_with,B_v_written_with,PySem.W.mg_of X G zmE⟩,
  gZ:=⟨F_v_names_of,B_v_names_of,PySem.W.mg_of X G zmI⟩,
  xG:=⟨F_v_are_names,B_v_are_names,PySem.W.mg_of X G zmM⟩,
  bF:=⟨F_v_room_of,B_v_room_of,PySem.W.mg_of X G zmQ⟩,
  fE:=⟨F_v_let_of,B_v_let_of,PySem.W.mg_of X G zmU⟩,
  bP:=⟨F_v_part_of,B_v_part_of,PySem.W.mg_of X G zmY⟩,
  yn:=⟨F_v_clause_of,B_v_clause_of,PySem.W.mg_of X G znc⟩,
  qY:=⟨F_v_fits_form,B_v_fits_form,PySem.W.mg_of X G zng⟩,
  wY:=⟨F_v_fits_place,B_v_fits_place,PySem.W.mg_of X G znk⟩,
  yO:=⟨F_Scope_init,B_Scope_init⟩,
  bL:=⟨F_Scope_know,B_Scope_know⟩,
  dg:=⟨F_Scope_bind,B_Scope_bind⟩,
  bR:=⟨F_Scope_copied,B_Scope_copied⟩,
  p4:=⟨F_Scope_party,B_Scope_party⟩,
  dh:=⟨F_Scope_deed,B_Scope_deed⟩,
  vM:=⟨F_Scope_room_for,B_Scope_room_for⟩,
  yN:=⟨F_Scope_falls_to,B_Scope_falls_to⟩,
  yg:=⟨F_Scope_meant,B_Scope_meant⟩,
  so:=⟨F_v_read,B_v_read,PySem.W.mg_of X G znY⟩,
  xi:=⟨F_v_read_names,B_v_read_names,PySem.W.mg_of X G zoc⟩,
  xB:=⟨F_v_told_once,B_v_told_once,PySem.W.mg_of X G zog⟩,
  wG:=⟨F_v_read_rooms,B_v_read_rooms,PySem.W.mg_of X G zok⟩,
  wH:=⟨F_v_read_whole,B_v_read_whole,PySem.W.mg_of X G zoo⟩,
  cE:=⟨F_Body_init,B_Body_init⟩,
  kl:=⟨F_Body_many_open,B_Body_many_open⟩,
  dv:=⟨F_Body_takes,B_Body_takes⟩,
  yo:=⟨F_Body_takes_done,B_Body_takes_done⟩,
  yi:=⟨F_Body_takes_head,B_Body_takes_head⟩,
  vP:=⟨F_Body_takes_clause,B_Body_takes_clause⟩,
  yy:=⟨F_Body_put_in,B_Body_put_in⟩,
  gK:=⟨F_Body_closed,B_Body_closed⟩,
  kY:=⟨F_w_cell,B_w_cell,PySem.W.mg_of X G zoY⟩,
  mz:=⟨F_w_stream,B_w_stream,PySem.W.mg_of X G zpc⟩,
  cO:=⟨F_w_names,B_w_names,PySem.W.mg_of X G zpg⟩,
  f9:=⟨F_w_header,B_w_header,PySem.W.mg_of X G zpk⟩,
  g6:=⟨F_w_kinds,B_w_kinds,PySem.W.mg_of X G zpo⟩,
  g7:=⟨F_w_scope,B_w_scope,PySem.W.mg_of X G zps⟩,
  w_text:=⟨F_w_text,B_w_text,PySem.W.mg_of X G zpw⟩,
  eL:=⟨F_w_due,B_w_due,PySem.W.mg_of X G zpA⟩,
  cN:=⟨F_w_means,B_w_means,PySem.W.mg_of X G zpE⟩,
  cS:=⟨F_w_asked,B_w_asked,PySem.W.mg_of X G zpI⟩,
  wB:=⟨F_w_right,B_w_right,PySem.W.mg_of X G zpM⟩,
  cT:=⟨F_w_bound,B_w_bound,PySem.W.mg_of X G zpQ⟩,
  sZ:=⟨F_w_deed,B_w_deed,PySem.W.mg_of X G zpU⟩,
  Kj:=⟨F_v_law,B_v_law,PySem.W.mg_of X G zpY⟩,
  ux:=PySem.W.mg_none_of X G zqc,
  kg:=PySem.W.mg_none_of X G zqd,
  gY:=PySem.W.mg_none_of X G zqe,
  Zm:=PySem.W.mg_none_of X G zqf,
  VS:=PySem.W.mg_none_of X G zqg,
  VN:=PySem.W.mg_none_of X G zqh,
  bS:=PySem.W.mg_none_of X G zqi,
  nB:=PySem.W.mg_none_of X G zqj,
  ie:=PySem.W.mg_none_of X G zqk,
  VO:=PySem.W.mg_none_of X G zql,
  dM:=PySem.W.mg_none_of X G zqm,
  VT:=PySem.W.mg_none_of X G zqn,
  JV:=PySem.W.mg_of X G zlo,
  tW:=⟨_,PySem.W.mg_of X G zlp⟩,
  tV:=⟨_,PySem.W.mg_of X G zlq⟩,
  fh:=⟨_,PySem.W.mg_of X G zlr⟩,
  fg:=⟨_,PySem.W.mg_of X G zls⟩,
  nI:=PySem.W.mg_of X G zlt,
  pd:=⟨_,PySem.W.mg_of X G zlu⟩,
  fb:=⟨_,PySem.W.mg_of X G zlv⟩,
  uW:=⟨_,PySem.W.mg_of X G zlw⟩,
  uG:=⟨_,PySem.W.mg_of X G zlx⟩,
  uY:=⟨_,PySem.W.mg_of X G zly⟩,
  wq:=⟨_,PySem.W.mg_of X G zlz⟩,
  iE:=PySem.W.mg_of X G zkZ,
  gx:=PySem.W.mg_of X G zla,
  fc:=PySem.W.mg_of X G zlb,
  di:=PySem.W.mg_of X G zlc,
  GK:=PySem.W.mg_of X G zld,
  ly:=PySem.W.mg_of X G zle,
  JO:=PySem.W.mg_of X G zlf,
  ow:=PySem.W.mg_of X G zlg,
  V1:=PySem.W.mg_of X G zlh,
  ZM:=PySem.W.mg_of X G zli,
  V2:=PySem.W.mg_of X G zlj,
  lg:=PySem.W.mg_of X G zlk,
  JI:=PySem.W.mg_of X G zll,
  rp:=PySem.W.mg_of X G zlm,
  JN:=PySem.W.mg_of X G zln,
  Xw:=(by obtain⟨its,n,h1,h2,h3,h4⟩:=zqp;exact⟨zkU,its,n,zqo,h1,h2,h3,h4⟩),
  ZN:=(by obtain⟨its,n,h1,h2,h3,h4⟩:=zqr;exact⟨zkV,its,n,zqq,h1,h2,h3,h4⟩),
  tQ:=⟨zqs,zqt,zqu,zqv⟩,
  mO:=zqw,
  pD:=zqx,
  fi:=zqy,
  pC:=zqz,
  mI:=zqA,
  tR:=⟨zqB,zqC,zqD,zqE⟩,
  Zu:=⟨zqF,zqG,zqH,zqI⟩,
  uP:=zqJ,
  mE:=zqK,
  cy:=zqL,
  m5:=zqM,
  uF:=zqN,
  og:=⟨zqO,zqP,zqQ,zqR⟩,
  iW:=⟨zqS,zqT,zqU,zqV⟩,
  cg:=zqW,
  fe:=zqX,
  m6:=zqY,
  fZ:=zqZ,
  cb:=zra,
  lZ:=⟨zrb,zrc,zrd,zre⟩,
  Jd:=⟨zrf,zrg,zrh,zri⟩,
  lJ:=zrj,
  cv:=zrk,
  uB:=zrl,
  cw:=zrm,
  lX:=zrn,
  aJ:=⟨zro,zrp,zrq,zrr⟩,
  iY:=⟨zrs,zrt,zru,zrv⟩,
  cc:=zrw,
  fQ:=zrx,
  dz:=zry,
  fJ:=zrz,
  cu:=zrA,
  lQ:=⟨zrB,zrC,zrD,zrE⟩,
  az:=⟨zrF,zrG,zrH,zrI⟩,
  uM:=zrJ,
  cf:=zrK,
  J3:=⟨zrL,zrM,zrN,zrO⟩,
  bN:=⟨zrP,zrQ,zrR,zrS⟩,
  yF:=zrT,
  bb:=zrU,
  cm:=zrV,
  cq:=⟨zrW,zrX,zrY,zrZ⟩,
  gG:=⟨zsa,zsb,zsc,zsd⟩,
  pZ:=zse,
  yZ:=zsf,
  bh:=zsg,
  m9:=zsh,
  ZC:=⟨zsi,zsj,zsk,zsl⟩,
  qI:=⟨zsm,zsn,zso,zsp⟩,
  wm:=zsq,
  ku:=zsr,
  bp:=zss,
  cj:=⟨zst,zsu,zsv,zsw⟩,
  bg:=⟨zsx,zsy,znv⟩,
  mT:=⟨zsz,zsA,znz⟩,
  pM:=⟨zsB,zsC,znD⟩,
  fo:=⟨zsD,zsE,znH⟩,
  mN:=⟨zsF,zsG,znL⟩,
  wg:=⟨zsH,zsI,znP⟩,
  gR:=⟨zsJ,zsK,znT⟩,
  wy:=⟨zsL,zsM,znX⟩,
  je:=⟨zsN,zsO,zsP,zsQ⟩,
  kJ:=zsR,
  yx:=zsS,
  gy:=zsT,
  ZD:=⟨zsU,zsV,zsW,zsX⟩,
  kc:=⟨zsY,zsZ,zoz⟩,
  mS:=⟨zta,ztb,zoD⟩,
  gv:=⟨ztc,ztd,zoH⟩,
  gw:=⟨zte,ztf,zoL⟩,
  yu:=⟨ztg,zth,zoP⟩,
  wx:=⟨zti,ztj,zoT⟩,
  gk:=⟨ztk,ztl,zoX⟩,
  nX:=⟨ig ztm ztn,zto⟩,
  vH:=⟨dP ztm ztn,ztp,ztq,ztr⟩,
  m8:=zts,
  nJ:=⟨ig ztt ztu,ztv⟩,
  pH:=⟨ztw,ztx,zty,ztz,ztA,ztB,ztC,ztD⟩,
  mB:=⟨dP ztt ztu,ztE,ztF,ztG⟩,
  wb:=ztH,
  wC:=(nS (dP ztt ztu) ztI ztJ ztK),
  dm:=(nS (dP ztO ztP) ztL ztM ztN),
  uL:=⟨ig ztO ztP,ztQ⟩,
  cI:=⟨ztR,ztS,ztT,ztU,ztV,ztW,ztX,ztY⟩,
  mq:=⟨dP ztO ztP,ztZ,zua,zub⟩,
  wR:=zuc,
  gz:=(nS (dP ztt ztu) zud zue zuf),
  yb:=(nS (dP ztO ztP) zug zuh zui),
  uk:=⟨zuj,zuk,zul,zlP⟩,
  iG:=⟨zum,zun,zuo,zlP⟩,
  yc:=zup }
end My
theorem PySem.W.Fast.tw10219290507114399818:True:=trivial
theorem PySem.W.Fast.tw10464962819168922654:True:=trivial
theorem PySem.W.Fast.tw10769353151874840063:True:=trivial
theorem PySem.W.Fast.tw11700470404838526856:True:=trivial
theorem PySem.W.Fast.tw11746780074890923268:True:=trivial
theorem PySem.W.Fast.tw12086887903734691562:True:=trivial
theorem PySem.W.Fast.tw1223743560597372408:True:=trivial
theorem PySem.W.Fast.tw12511915032604338159:True:=trivial
theorem PySem.W.Fast.tw12545063531237466430:True:=trivial
theorem PySem.W.Fast.tw12625095960936295373:True:=trivial
theorem PySem.W.Fast.tw1296023169470951359:True:=trivial
theorem PySem.W.Fast.tw13205792337841630946:True:=trivial
theorem PySem.W.Fast.tw13285205786580547313:True:=trivial
theorem PySem.W.Fast.tw13393607342770460116:True:=trivial
theorem PySem.W.Fast.tw13418453052101844487:True:=trivial
theorem PySem.W.Fast.tw13575161097053690850:True:=trivial
theorem PySem.W.Fast.tw13605659753546181815:True:=trivial
theorem PySem.W.Fast.tw13656382731598267586:True:=trivial
theorem PySem.W.Fast.tw13681166792110878287:True:=trivial
theorem PySem.W.Fast.tw13717756035825207563:True:=trivial
theorem PySem.W.Fast.tw13765084147264471573:True:=trivial
theorem PySem.W.Fast.tw14269156310046243555:True:=trivial
theorem PySem.W.Fast.tw14385728357653988962:True:=trivial
theorem PySem.W.Fast.tw1525980414390202567:True:=trivial
theorem PySem.W.Fast.tw17895338547127570603:True:=trivial
theorem PySem.W.Fast.tw18234061280316616794:True:=trivial
theorem PySem.W.Fast.tw18269182453423419836:True:=trivial
theorem PySem.W.Fast.tw18272007095190932337:True:=trivial
theorem PySem.W.Fast.tw18442727705106066453:True:=trivial
theorem PySem.W.Fast.tw2641028811925486961:True:=trivial
theorem PySem.W.Fast.tw2643772201639587549:True:=trivial
theorem PySem.W.Fast.tw295465210766242193:True:=trivial
theorem PySem.W.Fast.tw3458449798784292731:True:=trivial
theorem PySem.W.Fast.tw3524410918467121053:True:=trivial
theorem PySem.W.Fast.tw3686220747800748498:True:=trivial
theorem PySem.W.Fast.tw3917193331984179585:True:=trivial
theorem PySem.W.Fast.tw3925576497756273589:True:=trivial
theorem PySem.W.Fast.tw4176325852031977390:True:=trivial
theorem PySem.W.Fast.tw4311837605940533592:True:=trivial
theorem PySem.W.Fast.tw4383934178485904758:True:=trivial
theorem PySem.W.Fast.tw4402041204648461688:True:=trivial
theorem PySem.W.Fast.tw4876023110416472334:True:=trivial
theorem PySem.W.Fast.tw4999197452919315803:True:=trivial
theorem PySem.W.Fast.tw5037622885013737038:True:=trivial
theorem PySem.W.Fast.tw5594453357664512336:True:=trivial
theorem PySem.W.Fast.tw5981018666222735814:True:=trivial
theorem PySem.W.Fast.tw6364281232340818015:True:=trivial
theorem PySem.W.Fast.tw6556935566497863619:True:=trivial
theorem PySem.W.Fast.tw66022114613543678:True:=trivial
theorem PySem.W.Fast.tw6750858548156006641:True:=trivial
theorem PySem.W.Fast.tw6884530722934622100:True:=trivial
theorem PySem.W.Fast.tw6983701403350022205:True:=trivial
theorem PySem.W.Fast.tw7750987058330239034:True:=trivial
theorem PySem.W.Fast.tw79099688888182269:True:=trivial
theorem PySem.W.Fast.tw8041267312517286665:True:=trivial
theorem PySem.W.Fast.tw8209521692796477738:True:=trivial
theorem PySem.W.Fast.tw824354468419073240:True:=trivial
theorem PySem.W.Fast.tw8319736232724536764:True:=trivial
theorem PySem.W.Fast.tw8346360534005349976:True:=trivial
theorem PySem.W.Fast.tw8562402263229476758:True:=trivial
theorem PySem.W.Fast.tw861137369842785720:True:=trivial
theorem PySem.W.Fast.tw8652640353325607878:True:=trivial
theorem PySem.W.Fast.tw9159072704763872167:True:=trivial
theorem PySem.W.Fast.tw9297841028524713635:True:=trivial
theorem PySem.W.Fast.tw9823304986146100779:True:=trivial
theorem PySem.W.Fast.tw9905706723379253403:True:=trivial
theorem PySem.W.Fast.tw999580857718056323:True:=trivial
open PySem PySem.W PyProof.Rows
set_option maxRecDepth 100000 in
set_option maxHeartbeats 0 in
theorem PySem.Challenge.cw_pactway_k31_scopes_holds : PySem.Challenge.rw_pactway_k31_scopes.Holds := by
 w_on;o_law;k_head;(case hw=>w_witness2)
 k_fill
 refine L2.Kk (l:=PySem.Challenge.rw_pactway_k31_scopes) (n:=63) (k:=12) (x:="_law_script") (CX:=L2.jy) (sp:=My.XI) rfl (by decide) rfl ⟨rfl,by decide,by decide⟩ (fun w h Y=>PySem.W.kIn_of Y) ?F ?S ?C
 case F=>
  intro w mg fa h KX G hmg
  have T:∃t:My.jf,My.Txt (L2.B7 KX) mg t∧mg "law" = some (.ref t.dE):=by
   dsimp only[L2.B7]
   refine' My.YS KX G ?za_ ?zb_ ?zc_ ?zd_ ?ze_ ?zf_ ?zg_ ?zh_ ?zi_ ?zj_ ?zk_ ?zl_ ?zm_ ?zn_ ?zo_ ?zp_ ?zq_ ?zr_ ?zs_ ?zt_ ?zu_ ?zv_ ?zw_ ?zx_ ?zy_ ?zz_ ?zA_ ?zB_ ?zC_ ?zD_ ?zE_ ?zF_ ?zG_ ?zH_ ?zI_ ?zJ_ ?zK_ ?zL_ ?zM_ ?zN_ ?zO_ ?zP_ ?zQ_ ?zR_ ?zS_ ?zT_ ?zU_ ?zV_ ?zW_ ?zX_ ?zY_ ?zZ_ ?zaa_ ?zab_ ?zac_ ?zad_ ?zae_ ?zaf_ ?zag_ ?zah_ ?zai_ ?zaj_ ?zak_ ?zal_ ?zam_ ?zan_ ?zao_ ?zap_ ?zaq_ ?zar_ ?zas_ ?zat_ ?zau_ ?zav_ ?zaw_ ?zax_ ?zay_ ?zaz_ ?zaA_ ?zaB_ ?zaC_ ?zaD_ ?zaE_ ?zaF_ ?zaG_ ?zaH_ ?zaI_ ?zaJ_ ?zaK_ ?zaL_ ?zaM_ ?zaN_ ?zaO_ ?zaP_ ?zaQ_ ?zaR_ ?zaS_ ?zaT_ ?zaU_ ?zaV_ ?zaW_ ?zaX_ ?zaY_ ?zaZ_ ?zba_ ?zbb_ ?zbc_ ?zbd_ ?zbe_ ?zbf_ ?zbg_ ?zbh_ ?zbi_ ?zbj_ ?zbk_ ?zbl_ ?zbm_ ?zbn_ ?zbo_ ?zbp_ ?zbq_ ?zbr_ ?zbs_ ?zbt_ ?zbu_ ?zbv_ ?zbw_ ?zbx_ ?zby_ ?zbz_ ?zbA_ ?zbB_ ?zbC_ ?zbD_ ?zbE_ ?zbF_ ?zbG_ ?zbH_ ?zbI_ ?zbJ_ ?zbK_ ?zbL_ ?zbM_ ?zbN_ ?zbO_ ?zbP_ ?zbQ_ ?zbR_ ?zbS_ ?zbT_ ?zbU_ ?zbV_ ?zbW_ ?zbX_ ?zbY_ ?zbZ_ ?zca_ ?zcb_ ?zcc_ ?zcd_ ?zce_ ?zcf_ ?zcg_ ?zch_ ?zci_ ?zcj_ ?zck_ ?zcl_ ?zcm_ ?zcn_ ?zco_ ?zcp_ ?zcq_ ?zcr_ ?zcs_ ?zct_ ?zcu_ ?zcv_ ?zcw_ ?zcx_ ?zcy_ ?zcz_ ?zcA_ ?zcB_ ?zcC_ ?zcD_ ?zcE_ ?zcF_ ?zcG_ ?zcH_ ?zcI_ ?zcJ_ ?zcK_ ?zcL_ ?zcM_ ?zcN_ ?zcO_ ?zcP_ ?zcQ_ ?zcR_ ?zcS_ ?zcT_ ?zcU_ ?zcV_ ?zcW_ ?zcX_ ?zcY_ ?zcZ_ ?zda_ ?zdb_ ?zdc_ ?zdd_ ?zde_ ?zdf_ ?zdg_ ?zdh_ ?zdi_ ?zdj_ ?zdk_ ?zdl_ ?zdm_ ?zdn_ ?zdo_ ?zdp_ ?zdq_ ?zdr_ ?zds_ ?zdt_ ?zdu_ ?zdv_ ?zdw_ ?zdx_ ?zdy_ ?zdz_ ?zdA_ ?zdB_ ?zdC_ ?zdD_ ?zdE_ ?zdF_ ?zdG_ ?zdH_ ?zdI_ ?zdJ_ ?zdK_ ?zdL_ ?zdM_ ?zdN_ ?zdO_ ?zdP_ ?zdQ_ ?zdR_ ?zdS_ ?zdT_ ?zdU_ ?zdV_ ?zdW_ ?zdX_ ?zdY_ ?zdZ_ ?zea_ ?zeb_ ?zec_ ?zed_ ?zee_ ?zef_ ?zeg_ ?zeh_ ?zei_ ?zej_ ?zek_ ?zel_ ?zem_ ?zen_ ?zeo_ ?zep_ ?zeq_ ?zer_ ?zes_ ?zet_ ?zeu_ ?zev_ ?zew_ ?zex_ ?zey_ ?zez_ ?zeA_ ?zeB_ ?zeC_ ?zeD_ ?zeE_ ?zeF_ ?zeG_ ?zeH_ ?zeI_ ?zeJ_ ?zeK_ ?zeL_ ?zeM_ ?zeN_ ?zeO_ ?zeP_ ?zeQ_ ?zeR_ ?zeS_ ?zeT_ ?zeU_ ?zeV_ ?zeW_ ?zeX_ ?zeY_ ?zeZ_ ?zfa_ ?zfb_ ?zfc_ ?zfd_ ?zfe_ ?zff_ ?zfg_ ?zfh_ ?zfi_ ?zfj_ ?zfk_ ?zfl_ ?zfm_ ?zfn_ ?zfo_ ?zfp_ ?zfq_ ?zfr_ ?zfs_ ?zft_ ?zfu_ ?zfv_ ?zfw_ ?zfx_ ?zfy_ ?zfz_ ?zfA_ ?zfB_ ?zfC_ ?zfD_ ?zfE_ ?zfF_ ?zfG_ ?zfH_ ?zfI_ ?zfJ_ ?zfK_ ?zfL_ ?zfM_ ?zfN_ ?zfO_ ?zfP_ ?zfQ_ ?zfR_ ?zfS_ ?zfT_ ?zfU_ ?zfV_ ?zfW_ ?zfX_ ?zfY_ ?zfZ_ ?zga_ ?zgb_ ?zgc_ ?zgd_ ?zge_ ?zgf_ ?zgg_ ?zgh_ ?zgi_ ?zgj_ ?zgk_ ?zgl_ ?zgm_ ?zgn_ ?zgo_ ?zgp_ ?zgq_ ?zgr_ ?zgs_ ?zgt_ ?zgu_ ?zgv_ ?zgw_ ?zgx_ ?zgy_ ?zgz_ ?zgA_ ?zgB_ ?zgC_ ?zgD_ ?zgE_ ?zgF_ ?zgG_ ?zgH_ ?zgI_ ?zgJ_ ?zgK_ ?zgL_ ?zgM_ ?zgN_ ?zgO_ ?zgP_ ?zgQ_ ?zgR_ ?zgS_ ?zgT_ ?zgU_ ?zgV_ ?zgW_ ?zgX_ ?zgY_ ?zgZ_ ?zha_ ?zhb_ ?zhc_ ?zhd_ ?zhe_ ?zhf_ ?zhg_ ?zhh_ ?zhi_ ?zhj_ ?zhk_ ?zhl_ ?zhm_ ?zhn_ ?zho_ ?zhp_ ?zhq_ ?zhr_ ?zhs_ ?zht_ ?zhu_ ?zhv_ ?zhw_ ?zhx_ ?zhy_ ?zhz_ ?zhA_ ?zhB_ ?zhC_ ?zhD_ ?zhE_ ?zhF_ ?zhG_ ?zhH_ ?zhI_ ?zhJ_ ?zhK_ ?zhL_ ?zhM_ ?zhN_ ?zhO_ ?zhP_ ?zhQ_ ?zhR_ ?zhS_ ?zhT_ ?zhU_ ?zhV_ ?zhW_ ?zhX_ ?zhY_ ?zhZ_ ?zia_ ?zib_ ?zic_ ?zid_ ?zie_ ?zif_ ?zig_ ?zih_ ?zii_ ?zij_ ?zik_ ?zil_ ?zim_ ?zin_ ?zio_ ?zip_ ?ziq_
   (case za_ | zb_ | zc_ | zd_ | ze_ | zf_ | zg_ | zh_ | zi_ | zj_ | zk_ | zl_ | zm_ | zn_ | zo_ | zp_ | zq_ | zr_ | zs_ | zt_ | zu_ | zv_ | zw_ | zx_ | zy_ | zz_ | zA_ | zB_ | zC_ | zD_ | zE_ | zF_ | zG_ | zH_ | zI_ | zJ_ | zK_ | zL_ | zM_ | zN_ | zO_ | zP_ | zQ_ | zR_ | zS_ | zT_ | zU_ | zV_ | zW_ | zX_ | zY_ | zZ_ | zaa_ | zab_ | zac_ | zad_ | zae_ | zaf_ | zag_ | zah_ | zai_ | zaj_ | zak_ | zal_ | zam_ | zan_ | zao_ | zap_ | zaq_ | zar_ | zas_ | zat_ | zau_ | zav_ | zaw_ | zax_ | zay_ | zaz_ | zaA_ | zaB_ | zaC_ | zaD_ | zaE_ | zaF_ | zaG_ | zaH_ | zaI_ | zaJ_ | zaK_ | zaL_ | zaM_ | zaN_ | zaO_ | zaP_ | zaQ_ | zaR_ | zaS_ | zaT_ | zaU_ | zaV_ | zaW_ | zaX_ | zaY_ | zaZ_ | zba_ | zbb_ | zbc_ | zbd_ | zbe_ | zbf_ | zbg_ | zbh_ | zbi_ | zbj_ | zbk_ | zbl_ | zbm_ | zbn_ | zbo_ | zbp_ | zbq_ | zbr_ | zbs_ | zbt_ | zbu_ | zbv_ | zbw_ | zbx_ | zby_ | zbz_ | zbA_ | zbB_ | zbC_ | zbD_ | zbE_ | zbF_ | zbG_ | zbH_ | zbI_ | zbJ_ | zbK_ | zbL_ | zbM_ | zbN_ | zbO_ | zbP_ | zbQ_ | zbR_ | zbS_ | zbT_ | zbU_ | zbV_ | zbW_ | zbX_ | zbY_ | zbZ_ | zca_ | zcb_ | zcc_ | zcd_ | zce_ | zcf_ | zcg_ | zch_ | zci_ | zcj_ | zck_ | zcl_ | zcm_ | zcn_ | zco_ | zcp_ | zcq_ | zcr_ | zcs_ | zct_ | zcu_ | zcv_ | zcw_ | zcx_ | zcy_ | zcz_ | zcA_ | zcB_ | zcC_ | zcD_ | zcE_ | zcF_ | zcG_ | zcH_ | zcI_ | zcJ_ | zcK_ | zcL_ | zcM_ | zcN_ | zcO_ | zcP_ | zcQ_ | zcR_ | zcS_ | zcT_ | zcU_ | zcV_ | zcW_ | zcX_ | zcY_ | zcZ_ | zda_ | zdb_ | zdc_ | zdd_ | zde_ | zdf_ | zdg_ | zdh_ | zdi_ | zdj_ | zdk_ | zdl_ | zdm_ | zdn_ | zdo_ | zdp_ | zdq_ | zdr_ | zds_ | zdt_ | zdu_ | zdv_ | zdw_ | zdx_ | zdy_ | zdz_ | zdA_ | zdB_ | zdC_ | zdD_ | zdE_ | zdF_ | zdG_ | zdH_ | zdI_ | zdJ_ | zdK_ | zdL_ | zdM_ | zdN_ | zdO_ | zdP_ | zdQ_ | zdR_ | zdS_ | zdT_ | zdU_ | zdV_ | zdW_ | zdX_ | zdY_ | zdZ_ | zea_ | zeb_ | zec_ | zed_ | zee_ | zef_ | zeg_ | zeh_ | zei_ | zej_ | zek_ | zel_ | zem_ | zen_ | zeo_ | zep_=>k_is)
   (case zeq_=>exact⟨_,_,rfl,rfl,My.K1,My.K2⟩)
   (case zer_=>k_is)
   (case zes_=>exact⟨_,_,rfl,rfl,My.JM,My.JD⟩)
   (case zet_ | zeu_ | zev_ | zew_ | zex_ | zey_ | zez_ | zeA_ | zeB_ | zeC_ | zeD_ | zeE_ | zeF_ | zeG_ | zeH_ | zeI_ | zeJ_ | zeK_ | zeL_ | zeM_ | zeN_ | zeO_ | zeP_ | zeQ_ | zeR_ | zeS_ | zeT_ | zeU_ | zeV_ | zeW_ | zeX_ | zeY_ | zeZ_ | zfa_ | zfb_ | zfc_ | zfd_ | zfe_ | zff_ | zfg_ | zfh_ | zfi_ | zfj_ | zfk_ | zfl_ | zfm_ | zfn_ | zfo_ | zfp_ | zfq_ | zfr_ | zfs_ | zft_ | zfu_ | zfv_ | zfw_ | zfx_ | zfy_ | zfz_ | zfA_ | zfB_ | zfC_ | zfD_ | zfE_ | zfF_ | zfG_ | zfH_ | zfI_ | zfJ_ | zfK_ | zfL_ | zfM_ | zfN_ | zfO_ | zfP_ | zfQ_ | zfR_ | zfS_ | zfT_ | zfU_ | zfV_ | zfW_ | zfX_ | zfY_ | zfZ_ | zga_ | zgb_ | zgc_ | zgd_ | zge_ | zgf_ | zgg_ | zgh_ | zgi_ | zgj_ | zgk_ | zgl_ | zgm_ | zgn_ | zgo_ | zgp_ | zgq_ | zgr_ | zgs_ | zgt_ | zgu_ | zgv_ | zgw_ | zgx_ | zgy_ | zgz_ | zgA_ | zgB_ | zgC_ | zgD_ | zgE_ | zgF_ | zgG_ | zgH_ | zgI_ | zgJ_ | zgK_ | zgL_ | zgM_ | zgN_ | zgO_ | zgP_ | zgQ_ | zgR_ | zgS_ | zgT_ | zgU_ | zgV_ | zgW_ | zgX_ | zgY_ | zgZ_ | zha_ | zhb_ | zhc_ | zhd_ | zhe_ | zhf_ | zhg_ | zhh_ | zhi_ | zhj_ | zhk_ | zhl_ | zhm_ | zhn_=>k_is)
   (case zho_=>rfl)
   (case zhp_ | zhq_ | zhr_ | zhs_ | zht_ | zhu_=>k_is)
   (case zhv_=>rfl)
   (case zhw_ | zhx_ | zhy_ | zhz_ | zhA_ | zhB_ | zhC_ | zhD_ | zhE_ | zhF_ | zhG_ | zhH_ | zhI_ | zhJ_ | zhK_ | zhL_ | zhM_ | zhN_ | zhO_ | zhP_=>k_is)
   (case zhQ_=>rfl)
   (case zhR_ | zhS_ | zhT_ | zhU_ | zhV_ | zhW_ | zhX_ | zhY_ | zhZ_ | zia_ | zib_ | zic_ | zid_ | zie_ | zif_ | zig_ | zih_ | zii_ | zij_ | zik_ | zil_ | zim_ | zin_ | zio_ | zip_=>k_is)
   (case ziq_=>kit_is)
  obtain⟨t,T,hl⟩:=T
  have e0:=hmg.symm.trans hl
  cases e0
  exact⟨_,My.QX T,fun base kb nb=>My.Xb T⟩
 case S=>exact fun K H a ns hl hO hS=>My.QK hl hO hS
 case C=>exact fun _ _ _ _ z=>z
