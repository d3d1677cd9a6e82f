import PyProof.Rows.All
import Wide.All
import OpenK.AllK
import Wide.FinOn
import PyProof.EqAt
import PyProof.EqKinds
import PyProof.TupleCall
import Lean
import PyProof.SetNew
import PyProof.SetRoads
import PySem.Challenge.RW_pactway_k24_whole_text_again
set_option Elab.async false
set_option linter.all false
set_option maxRecDepth 100000
namespace L2
open PySem PySem.Spec PyProof.Rows
noncomputable abbrev Key:=Sum Int Str
noncomputable def tM:Key→Value→Bool
 | .inl k,v=>Value.isInt k v
 | .inr x,v=>Value.isStrOf x v
noncomputable def HM (w:World):Key→Int
 | .inl k=>hashInt k
 | .inr x=>hashStr w x
theorem xn:∀{k:Key} {v:Value},tM k v=true→(∃i t,k=Sum.inl i∧v=Value.int i t)∨(∃x t,k=Sum.inr x∧v=Value.str x t)
 | .inl i,v,h=>by
  obtain⟨t,e⟩:=Value.isInt_shape (k:=i) (v:=v) h
  exact .inl ⟨i,t,rfl,e⟩
 | .inr x,v,h=>by
  obtain⟨t,e⟩:=Value.isStrOf_shape (x:=x) (v:=v) h
  exact .inr ⟨x,t,rfl,e⟩
theorem QE (i:Int) (t:Tok):tM (.inl i) (.int i t)=true:=by simp [tM,Value.isInt]
theorem QA (x:Str) (t:Tok):tM (.inr x) (.str x t)=true:=by simp [tM,Value.isStrOf]
theorem WI (a b:Int):decide ((Sum.inl a:Key)=Sum.inl b)=(a == b):=by
 by_cases e:a=b
 ·subst e;simp
 ·have h:¬(Sum.inl a:Key)=Sum.inl b:=fun q=>e (Sum.inl.inj q)
  rw[decide_eq_false h]
  exact(beq_eq_false_iff_ne.mpr e).symm
theorem W0 (a b:Str):decide ((Sum.inr a:Key)=Sum.inr b)=decide (a=b):=by
 by_cases e:a=b
 ·subst e;simp
 ·have h:¬(Sum.inr a:Key)=Sum.inr b:=fun q=>e (Sum.inr.inj q)
  rw[decide_eq_false h,decide_eq_false e]
theorem WE (a:Int) (b:Str):decide ((Sum.inl a:Key)=Sum.inr b)=false:=decide_eq_false (fun q=>nomatch q)
theorem WA (a:Str) (b:Int):decide ((Sum.inr a:Key)=Sum.inl b)=false:=decide_eq_false (fun q=>nomatch q)
noncomputable def vk (prog:Program) (w:World):PySem.KeyKind prog w Key where
 is:=tM
 hash:=HM w
 inj:=fun v a b ha hb=>by
  rcases xn ha with ⟨i,t,rfl,rfl⟩ | ⟨x,t,rfl,rfl⟩
  ·rcases xn hb with ⟨j,u,rfl,e⟩ | ⟨y,u,rfl,e⟩
   ·injection e with e1 _;rw[e1]
   ·exact nomatch e
  ·rcases xn hb with ⟨j,u,rfl,e⟩ | ⟨y,u,rfl,e⟩
   ·exact nomatch e
   ·injection e with e1 _;rw[e1]
 byValue:=fun k v h=>by
  rcases xn h with ⟨i,t,rfl,rfl⟩ | ⟨x,t,rfl,rfl⟩<;>rfl
 pyHash:=fun hv h=>by
  rcases xn hv with ⟨i,t,rfl,rfl⟩ | ⟨x,t,rfl,rfl⟩
  ·exact wpAny_pyHash_int h
  ·exact wpAny_pyHash_str h
 eqBool:=fun hu hv h=>by
  rcases xn hu with ⟨i,t,rfl,rfl⟩ | ⟨x,t,rfl,rfl⟩
  ·rcases xn hv with ⟨j,u,rfl,rfl⟩ | ⟨y,u,rfl,rfl⟩
   ·rw[WI] at h;exact wpAny_eqBool_int h
   ·rw[WE] at h;exact SeqAt.EqAt.int_str i t y u _ _ _ _ h
  ·rcases xn hv with ⟨j,u,rfl,rfl⟩ | ⟨y,u,rfl,rfl⟩
   ·rw[WA] at h;exact SeqAt.EqAt.str_int x t j u _ _ _ _ h
   ·rw[W0] at h;exact wpAny_eqBool_str h
 «strs»:=fun k x t v h=>by
  rcases xn h with ⟨i,u,rfl,e⟩ | ⟨y,u,rfl,e⟩
  ·exact nomatch e
  ·injection e with e1 _
   subst e1
   cases v<;>rfl
theorem i3 (prog:Program) (w:World) (i:Int) (t:Tok):(vk prog w).is (.inl i) (.int i t)=true:=QE i t
theorem i4 (prog:Program) (w:World) (x:Str) (t:Tok):(vk prog w).is (.inr x) (.str x t)=true:=QA x t
end L2
namespace L2
open PySem PySem.Spec PyProof.Rows
inductive V where
 | non | bl (b:Bool) | int (i:Int) | str (x:Str) | byt (b:Array UInt8) | flt (b:UInt64) | ref (a:Addr) | ty (n:String)
 deriving DecidableEq
noncomputable def RelV:V→Value→Prop
 | .non,u=>u=Value.none
 | .bl b,u=>u=Value.bool b
 | .int i,u=>∃t,u=Value.int i t
 | .str x,u=>∃t,u=Value.str x t
 | .byt b,u=>∃t,u=Value.bytes b t
 | .flt b,u=>∃t,u=Value.float b t
 | .ref a,u=>u=Value.ref a
 | .ty n,u=>u=Value.type n
noncomputable abbrev Vals:List V→List Value→Prop:=Paired RelV
theorem Vals.length {xs:List V} {us:List Value} (r:Vals xs us):xs.length=us.length:=Paired.length r
theorem Vals.get:∀{xs:List V} {us:List Value} {i:Nat} {x:V},Vals xs us→xs[i]?=some x→∃u,us[i]?=some u∧RelV x u
 | _,_,_,_,.nil,e=>by simp at e
 | _,_,0,_,.cons r _,e=>by simp at e;subst e;exact⟨_,rfl,r⟩
 | _,_,i + 1,x,.cons _ t,e=>by
  obtain⟨u,h1,h2⟩:=Vals.get (i:=i) (x:=x) t (by simpa using e)
  exact⟨u,by simpa using h1,h2⟩
theorem Vals.append:∀{xs ys:List V} {us ws:List Value},Vals xs us→Vals ys ws→Vals (xs ++ ys) (us ++ ws)
 | _,_,_,_,.nil,s=>s
 | _,_,_,_,.cons r t,s=>.cons r (Vals.append t s)
theorem Vals.take:∀{xs:List V} {us:List Value} (n:Nat),Vals xs us→Vals (xs.take n) (us.take n)
 | _,_,0,_=>.nil
 | _,_,_ + 1,.nil=>.nil
 | _,_,n + 1,.cons r t=>.cons r (Vals.take n t)
theorem Vals.drop:∀{xs:List V} {us:List Value} (n:Nat),Vals xs us→Vals (xs.drop n) (us.drop n)
 | _,_,0,r=>r
 | _,_,_ + 1,.nil=>.nil
 | _,_,n + 1,.cons _ t=>Vals.drop n t
theorem Vals.none_of:∀{xs:List V} {us:List Value} {i:Nat},Vals xs us→xs[i]?=none→us[i]?=none:=fun {xs us i} r e=>by
 have h1:=r.length
 have h2:xs.length≤i:=List.getElem?_eq_none_iff.mp e
 exact List.getElem?_eq_none_iff.mpr (by omega)
noncomputable def gI:Option V→Option Value→Prop
 | some v,some u=>RelV v u
 | none,none=>True
 | _,_=>False
noncomputable def KV {κ:Type}:List (κ × V)→List (κ × Value)→Prop:=Paired fun (p:κ × V) (q:κ × Value)=>p.1=q.1∧RelV p.2 q.2
noncomputable def kV:Key→V
 | .inl i=>.int i
 | .inr x=>.str x
inductive HO where
 | lst (xs:List V)
 | tup (xs:List V)
 | dK (kvs:List (Key × V)) | dT (kvs:List (List Key × V))
 | set (S:Int→Bool) (n:Nat)
 | ins (C dx:Addr) (fs:List (Str × V))
 | own (x:Addr)
 | xd (fs:List (Str × V))
 | met (f x:Addr)
 | rng (lo hi:Int)
 | frz (o:Obj) (u:HO)
 | tbl (ps:Array Value)
 | ext (φ:Heap→Prop)
noncomputable abbrev Hp:=Addr→Option HO
noncomputable def upd (H:Hp) (a:Addr) (o:HO):Hp:=fun b=>if b=a then some o else H b
theorem qx {H:Hp} {a:Addr} {o:HO}:upd H a o a=some o:=by unfold upd;rw[if_pos rfl]
theorem qB {H:Hp} {a b:Addr} {o:HO} (h:b≠a):upd H a o b=H b:=by unfold upd;rw[if_neg h]
theorem gM {H:Hp} {a:Addr} {o u:HO}:upd (upd H a o) a u=upd H a u:=by
 funext b;unfold upd;split<;>rfl
theorem yV {H:Hp} {a b:Addr} {o u:HO} (h:H a=some o) (h':H b=some u) (d:o≠u):a≠b:=by
 intro e;subst e;rw[h] at h';exact d (Option.some.inj h')
theorem qv {H:Hp} {a b:Addr} {o:HO} (h:H a=some o) (h':H b=none):a≠b:=by
 intro e;subst e;rw[h] at h';cases h'
section
variable (P:Program) (w:World)
noncomputable def xb (H:Hp) (h:Heap) (a:Addr):HO→Prop
 | .lst xs=>xs.length≤sizeLine∧∃(its:List Value) (n:Nat),Vals xs its∧h.get? a=some { cls:=.type "list",data:=.seq its.toArray n }
 | .tup xs=>xs.length≤sizeLine∧∃its:List Value,Vals xs its∧IsTup h a its.toArray
 | .dK kvs=>kvs.length≤sizeLine∧(a == sysModules)=false∧∃vs,KV kvs vs∧h.DictOf (vk P w) a vs
 | .dT kvs=>kvs.length≤sizeLine∧(a == sysModules)=false∧∃xs:List (List Key × Addr × Value),
   Paired (fun (p:List Key × V) (q:List Key × Addr × Value)=>p.1=q.1∧H q.2.1=some (.tup (p.1.map kV))∧RelV p.2 q.2.2) kvs xs∧
   ∃o es ep,h.get? a=some o∧o.ExactDict∧o.data=.dict es ep∧es.toList=xs.map (entryOfKey (tupleKind (vk P w)))∧(xs.map (·.1)).Nodup
 | .set S n=>h.SetOf (intKind P w) a S n
 | .ins C dx fs=>H dx=some (.own a)∧fs.length≤1000∧dx≠a∧h.get? a=some (PySem.W.instObj C dx)∧
   ∃mA,h.Ns1 dx mA∧(∀f,gI (fs.lookup f) (mA f))∧PySem.Within mA (fs.map (·.1))
 | .own _=>∃o,h.get? a=some o
 | .xd fs=>∃mA,h.Ns1 a mA∧∀f,gI (fs.lookup f) (mA f)
 | .rng lo hi=>∃t u v,h.get? a=some { cls:=.type "range",data:=.fields #[.int lo t,.int hi u,.int 1 v] }
 | .frz o u=>h.get? a=some o∧xb H h a u
 | .tbl ps=>h.get? a=some { cls:=.none,data:=.fields ps }
 | .met f x=>h.get? a=some (PySem.W.methodObj (.ref f) (.ref x))
 | .ext φ=>φ h∧(∃o,h.get? a=some o)∧∀h1 h2:Heap,φ h1→(∀o,h1.get? a=some o→h2.get? a=some o)→φ h2
noncomputable def pW (H:Hp) (h:Heap):Prop:=∀a o,H a=some o→xb P w H h a o
end
section
variable {P:Program} {w:World} {H H':Hp} {h h':Heap} {a:Addr} {o:HO}
theorem xb.lt (x:xb P w H h a o):a < h.objs.size:=by
 cases o with
 | lst xs=>obtain⟨_,_,_,_,e⟩:=x;exact Heap.lt_size e
 | tup xs=>obtain⟨_,_,_,p⟩:=x;exact p.lt
 | dK kvs=>obtain⟨_,_,_,_,o,_,_,e,_⟩:=x;exact Heap.lt_size e
 | dT kvs=>obtain⟨_,_,_,_,o,_,_,e,_⟩:=x;exact Heap.lt_size e
 | set S n=>obtain⟨o,_,_,_,e,_⟩:=x;exact Heap.lt_size e
 | ins C dx fs=>obtain⟨_,_,_,e,_⟩:=x;exact Heap.lt_size e
 | own y=>obtain⟨_,e⟩:=x;exact Heap.lt_size e
 | xd fs=>obtain⟨_,⟨_,_,_,e,_⟩,_⟩:=x;exact Heap.lt_size e
 | rng lo hi=>obtain⟨_,_,_,e⟩:=x;exact Heap.lt_size e
 | frz ob u=>obtain⟨e,_⟩:=x;exact Heap.lt_size e
 | tbl ps=>exact Heap.lt_size (show h.get? a=some _ from x)
 | met f y=>exact Heap.lt_size (show h.get? a=some _ from x)
 | ext φ=>obtain⟨_,⟨_,e⟩,_⟩:=x;exact Heap.lt_size e
theorem Paired.Xo {α β:Type} {F G:α→β→Prop}:∀{l₁:List α} {l₂:List β},Paired F l₁ l₂→(∀a b,F a b→G a b)→Paired G l₁ l₂
 | _,_,.nil,_=>.nil
 | _,_,.cons r t,f=>.cons (f _ _ r) (Paired.Xo t f)
theorem Paired.imp' {α β:Type} {F G:α→β→Prop} (f:∀a b,F a b→G a b) {l₁:List α} {l₂:List β} (r:Paired F l₁ l₂):Paired G l₁ l₂:=Paired.Xo r f
theorem xb.ax (x:xb P w H h a o) (k:∀b u,(b=a∨H b=some (.own a))→h.get? b=some u→h'.get? b=some u)
  (ho:∀b,H b=some (.own a)→H' b=some (.own a)) (ht:∀b xs,H b=some (.tup xs)→H' b=some (.tup xs)):xb P w H' h' a o:=by
 induction o with
 | lst xs=>obtain⟨z,its,n,r,e⟩:=x;exact⟨z,its,n,r,k _ _ (.inl rfl) e⟩
 | tup xs=>obtain⟨z,its,r,ob,e,c⟩:=x;exact⟨z,its,r,ob,k _ _ (.inl rfl) e,c⟩
 | dK kvs=>obtain⟨z,y,vs,r,ob,es,ep,e,c⟩:=x;exact⟨z,y,vs,r,ob,es,ep,k _ _ (.inl rfl) e,c⟩
 | dT kvs=>
  obtain⟨z,y,xs,r,ob,es,ep,e,c⟩:=x
  exact⟨z,y,xs,Paired.Xo r fun p q z=>⟨z.1,ht _ _ z.2.1,z.2.2⟩,ob,es,ep,k _ _ (.inl rfl) e,c⟩
 | set S n=>obtain⟨ob,es,ep,t,e,c⟩:=x;exact⟨ob,es,ep,t,k _ _ (.inl rfl) e,c⟩
 | ins C dx fs=>
  obtain⟨d,z,ne,e,mA,⟨od,es,ep,e2,c⟩,r⟩:=x
  exact⟨ho _ d,z,ne,k _ _ (.inl rfl) e,mA,⟨od,es,ep,k _ _ (.inr d) e2,c⟩,r⟩
 | own y=>obtain⟨ob,e⟩:=x;exact⟨ob,k _ _ (.inl rfl) e⟩
 | xd fs=>obtain⟨mA,⟨od,es,ep,e,c⟩,r⟩:=x;exact⟨mA,⟨od,es,ep,k _ _ (.inl rfl) e,c⟩,r⟩
 | rng lo hi=>obtain⟨t,u,v,e⟩:=x;exact⟨t,u,v,k _ _ (.inl rfl) e⟩
 | frz ob u ih=>obtain⟨e,q⟩:=x;exact⟨k _ _ (.inl rfl) e,ih q⟩
 | tbl ps=>
  have e:h.get? a=some { cls:=.none,data:=.fields ps }:=x
  show h'.get? a=some { cls:=.none,data:=.fields ps }
  exact k a _ (.inl rfl) e
 | met f y=>
  have e:h.get? a=some (PySem.W.methodObj (.ref f) (.ref y)):=x
  show h'.get? a=some (PySem.W.methodObj (.ref f) (.ref y))
  exact k a _ (.inl rfl) e
 | ext φ=>obtain⟨p,⟨o,e⟩,st⟩:=x;exact⟨st _ _ p fun o q=>k _ _ (.inl rfl) q,⟨o,k _ _ (.inl rfl) e⟩,st⟩
theorem pW.lt (x:pW P w H h) (e:H a=some o):a < h.objs.size:=(x a o e).lt
theorem pW.fresh (x:pW P w H h) (e:h.objs.size≤a):H a=none:=by
 cases q:H a with
 | none=>rfl
 | some u=>exact absurd (Nat.lt_of_lt_of_le (x.lt q) e) (Nat.lt_irrefl _)
theorem pW.kept (x:pW P w H h) (k:∀b u,h.get? b=some u→h'.get? b=some u):pW P w H h':=fun a o e=>
 (x a o e).ax (fun b u _ q=>k b u q) (fun _ q=>q) fun _ _ q=>q
theorem pW.laid (x:pW P w H h) (k:∀b u,h.get? b=some u→h'.get? b=some u) (hp:h.objs.size≤a) (new:xb P w (upd H a o) h' a o):pW P w (upd H a o) h':=fun b u e=>by
 have hn:=x.fresh hp
 by_cases hb:b=a
 ·subst hb;rw[qx] at e;cases e;exact new
 ·rw[qB hb] at e
  exact(x b u e).ax (fun c v _ q=>k c v q) (fun c q=>by rw[qB (qv q hn)];exact q) fun c xs q=>by rw[qB (qv q hn)];exact q
end
noncomputable def Rd (H:Hp) (a:Addr) (u:HO):Prop:=H a=some u∨∃o,H a=some (.frz o u)
theorem Rd.ok {P:Program} {w:World} {H:Hp} {h:Heap} {a:Addr} {u:HO} (r:Rd H a u) (x:pW P w H h):xb P w H h a u:=by
 rcases r with r | ⟨o,r⟩
 ·exact x a u r
 ·obtain⟨_,q⟩:=x a _ r
  exact q
noncomputable def Y3:Option HO→Prop
 | some (.lst _)=>True
 | some (.dK _)=>True
 | some (.dT _)=>True
 | some (.set _ _)=>True
 | some (.ins _ _ _)=>True
 | some (.ext _)=>True
 | _=>False
section
variable {P:Program} {w:World} {H:Hp} {h h':Heap} {x e:Addr} {o':HO}
theorem pW.write (ok:pW P w H h) (mu:Y3 (H x)) (he:e=x∨H e=some (.own x)) (k:∀b u,b≠e→h.get? b=some u→h'.get? b=some u) (heo:∃u,h'.get? e=some u)
  (new:xb P w (upd H x o') h' x o'):pW P w (upd H x o') h':=fun b u q=>by
 have nown:∀c y,H c=some (.own y)→c≠x:=fun c y r z=>by subst z;rw[r] at mu;exact mu
 have ntup:∀c xs,H c=some (.tup xs)→c≠x:=fun c xs r z=>by subst z;rw[r] at mu;exact mu
 by_cases hb:b=x
 ·subst hb;rw[qx] at q;cases q;exact new
 ·rw[qB hb] at q
  by_cases hbe:b=e
  ·have q':H b=some (.own x):=by
    rcases he with z | z
    ·exact absurd (hbe.trans z) hb
    ·rw[hbe];exact z
   rw[q] at q';cases q'
   obtain⟨v,hv⟩:=heo
   exact⟨v,by rw[hbe];exact hv⟩
  ·refine(ok b u q).ax (fun c v hc r=>k c v ?_ r) (fun c r=>by rw[qB (nown c b r)];exact r) fun c xs r=>by rw[qB (ntup c xs r)];exact r
   rcases hc with rfl | hc
   ·exact hbe
   ·rintro rfl
    rcases he with z | z
    ·exact nown c b hc z
    ·rw[hc] at z;cases z;exact hb rfl
end
structure Un (fs ex:List Addr) (H H':Hp) (h h':Heap):Prop where
 keep:∀b o,h.get? b=some o→H b=none→b∉fs→b∉ex→h'.get? b=some o
 slot:∀b o,h.get? b=some o→H b=none→b∈fs→b∉ex→∃sl,h'.get? b=some { o with slots:=sl }
 free:∀b o,h.get? b=some o→H b=none→b∉ex→H' b=none
 there:∀b o,h.get? b=some o→b∉ex→∃o',h'.get? b=some o'
 iy:∀b xs,H b=some (.tup xs)→H' b=some (.tup xs)
 sP:∀b o u,H b=some (.frz o u)→H' b=some (.frz o u)
 ij:∀b ps,H b=some (.tbl ps)→∃more,H' b=some (.tbl (ps ++ more))
section
variable {fs fs' ex ex':List Addr} {H H1 H2:Hp} {h h1 h2 h':Heap} {a x e:Addr} {o:HO}
theorem Un.any (u:Un fs ex H H1 h h1) {b:Addr} {ob:Obj} (q:h.get? b=some ob) (n:H b=none) (hx:b∉ex):∃sl,h1.get? b=some { ob with slots:=sl }:=by
 by_cases hb:b∈fs
 ·exact u.slot b ob q n hb hx
 ·exact⟨ob.slots,u.keep b ob q n hb hx⟩
theorem Un.kept (k:∀b u,h.get? b=some u→h'.get? b=some u):Un fs ex H H h h':=
 ⟨fun b ob q _ _ _=>k b ob q,fun b ob q _ _ _=>⟨ob.slots,k b ob q⟩,fun _ _ _ n _=>n,fun b ob q _=>⟨ob,k b ob q⟩,fun _ _ q=>q,fun _ _ _ q=>q,fun _ ps q=>⟨#[],by rw[q];simp⟩⟩
theorem Un.refl:Un fs ex H H h h:=Un.kept fun _ _ q=>q
theorem Un.laid (k:∀b u,h.get? b=some u→h'.get? b=some u) (hp:h.objs.size≤a) (hn:H a=none):Un fs ex H (upd H a o) h h' where
 keep:=fun b u q _ _ _=>k b u q
 slot:=fun b u q _ _ _=>⟨u.slots,k b u q⟩
 free:=fun b u q n _=>by rw[qB (Nat.ne_of_lt (Nat.lt_of_lt_of_le (Heap.lt_size q) hp))];exact n
 there:=fun b u q _=>⟨u,k b u q⟩
 iy:=fun b xs q=>by rw[qB (qv q hn)];exact q
 sP:=fun b u xs q=>by rw[qB (qv q hn)];exact q
 ij:=fun b ps q=>⟨#[],by rw[qB (qv q hn),q];simp⟩
theorem Un.write (mu:Y3 (H x)) (he:e=x∨H e=some (.own x)) (k:∀b u,b≠e→h.get? b=some u→h'.get? b=some u) (heo:∃u,h'.get? e=some u):Un fs ex H (upd H x o) h h':=by
 have hx:∀b,H b=none→b≠x:=fun b n z=>by subst z;rw[n] at mu;exact mu
 have hb:∀b,H b=none→b≠e:=fun b n z=>by
  subst z
  rcases he with r | r
  ·exact hx b n r
  ·rw[n] at r;cases r
 have hm:∀b u,H b=some u→¬Y3 (some u)→b≠x:=fun b u q nm z=>by subst z;rw[q] at mu;exact nm mu
 refine⟨fun b u q n _ _=>k b u (hb b n) q,fun b u q n _ _=>⟨u.slots,k b u (hb b n) q⟩,fun b u q n _=>by rw[qB (hx b n)];exact n,fun b u q _=>?_,
  fun b xs q=>by rw[qB (hm b _ q fun z=>z)];exact q,fun b u xs q=>by rw[qB (hm b _ q fun z=>z)];exact q,fun b ps q=>⟨#[],by rw[qB (hm b _ q fun z=>z),q];simp⟩⟩
 by_cases hbe:b=e
 ·subst hbe;exact heo
 ·exact⟨u,k b u hbe q⟩
end
noncomputable def Hn (h:Heap) (H:Hp):List Addr:=(List.range h.objs.size).filter fun a=>(H a).isSome
noncomputable def oq (h:Heap) (H:Hp):Heap:=PySem.W.hideAll h (Hn h H)
theorem QS (h:Heap) (H:Hp):(oq h H).objs.size=h.objs.size:=PySem.W.hideAll_size _ _
theorem Xb {h:Heap} {H:Hp} {b:Addr} {o:Obj} (e:h.get? b=some o) (n:H b=none):(oq h H).get? b=some o:=
 PySem.W.hideAll_get _ e fun hm=>by
  have q:(H b).isSome=true:=(List.mem_filter.mp hm).2
  rw[n] at q;simp at q
theorem VW {h:Heap} {H:Hp} {b:Addr} {o:Obj} (e:(oq h H).get? b=some o):h.get? b=some o∧H b=none:=by
 have e':h.get? b=some o:=PySem.W.of_hideAll (Hn h H) e
 refine⟨e',?_⟩
 cases q:H b with
 | none=>rfl
 | some x=>
  have hm:b∈Hn h H:=List.mem_filter.mpr ⟨List.mem_range.mpr (Heap.lt_size e'),by simp [q]⟩
  have z:(oq h H).get? b=none:=PySem.W.hideAll_none (Hn h H) hm
  rw[z] at e;cases e
noncomputable def K6 (g h:Heap) (L:Addr):List (Addr × Obj):=(List.range h.objs.size).filterMap fun a=>if a=L∨(g.get? a).isSome=true then none else (h.get? a).map fun o=>(a,o)
noncomputable def rest (g h:Heap) (L d:Addr):List (Addr × Obj):=(K6 g h L).filter fun p=>decide (p.1≠d)
end L2
namespace L2
open PySem PySem.Spec PyProof.Rows
structure Mod (K:PySem.W.Frag) (mg:Str→Option Value) (base:Heap):Prop where
 Xf:K.In base
 glob:base.Ns mainGlobals mg
 blt:∃mb,base.Ns builtinsNs mb∧∀x:Str,x≠"__name__"→mb x=bootBuiltins x
 nolimit:base.NoLimit
structure Cx where
 prog:Program
 w:World
 K:PySem.W.Frag
 mg:Str→Option Value
 base:Heap
 A:Around
 N:List Str
 s₀:Shared
 H₀:Hp
 env:Env
 outer:List Env
 stack:List Env
 ex:List Addr
 fn:Str→Bool
 calm:Bool
 pn:List (Addr × Obj)
 xe:Value→Shared→Prop
noncomputable def ao (l:List Env):List Addr:=l.filterMap (·.frame)
noncomputable abbrev Cx.fs (X:Cx):List Addr:=ao X.outer
noncomputable def HX (sc:Scope) (x:Str):Prop:=sc.names.lookup x=some .local∨sc.names.lookup x=some .cell∨sc.names.lookup x=some .free
noncomputable def Loc (sc:Scope) (x:Str):Prop:=sc.names.lookup x=some .local∨sc.names.lookup x=some .cell
noncomputable def Look (env:Env) (h:Heap) (m:Str→Option Value) (x:Str) (u:Value):Prop:=
 (env.kindOf x=some .local∧m x=some u)∨((env.kindOf x=some .cell∨env.kindOf x=some .free)∧∃c,env.cells.lookup x=some c∧h.IsCell c (some u))
structure Cx.Ok (X:Cx):Prop where
 mod:Mod X.K X.mg X.base
 kind:X.env.scope.kind=.function
 glob:X.env.globals=mainGlobals
 blt:X.env.builtins=builtinsNs
 above:X.s₀.heap.objs.size≤X.env.locals
 inj:∀x y c,X.env.cells.lookup x=some c→X.env.cells.lookup y=some c→x=y
 has:∀x,(X.env.kindOf x=some .cell∨X.env.kindOf x=some .free)→∃c,X.env.cells.lookup x=some c
 Gq:∀x c,X.fn x=true→X.env.cells.lookup x=some c→X.s₀.heap.objs.size≤c
 hd:X.calm=true→X.A.handled=none
 frames:X.A.frames=some X.stack
 Hu:X.stack=X.outer∨(X.stack=X.env :: X.outer∧X.env.frame=some X.env.locals)
 YI:∀b∈X.ex,b≠X.env.locals∧∀x c,X.env.cells.lookup x=some c→c≠b
 bs:∀b o,X.base.get? b=some o→X.s₀.heap.get? b=some o∧X.H₀ b=none
 JV:X.base.objs.size≤X.s₀.heap.objs.size
 Q6:∀b o,X.base.get? b=some o→b∉X.ex
 QM:∀b∈X.ex,b∉X.fs
 uH:X.s₀.heap.FunFrames X.base X.outer
 WL:∀b∈X.fs,X.H₀ b=none
structure Inv (X:Cx) (pins:List (Addr × Obj)) (σ:List (Option V)) (H:Hp) (s:Shared):Prop where
 ok:X.Ok
 os:s.os=X.s₀.os
 bare:AllBare s.gens
 base:Un X.fs X.ex X.H₀ H X.s₀.heap s.heap
 loc:∃m,s.heap.Ns X.env.locals m∧∀(i:Nat) (x:Str) (v:V),X.N[i]?=some x→σ[i]?=some (some v)→HX X.env.scope x→∃u,RelV v u∧Look X.env s.heap m x u
 cell:∀x c,X.env.cells.lookup x=some c→∃v,s.heap.IsCell c v
 free:H X.env.locals=none
 pk:∀x c,X.env.cells.lookup x=some c→H c=none
 pin:∀p∈X.pn ++ pins,s.heap.get? p.1=some p.2∧H p.1=none∧p.1≠X.env.locals∧p.1∉X.fs∧∀v,p.2.data≠.cell v
 jc:pW X.prog X.w H s.heap
 len:σ.length=X.N.length
section
variable {X:Cx} {pins:List (Addr × Obj)} {σ:List (Option V)} {H H':Hp} {s:Shared} {h':Heap}
theorem Cx.Ok.HE (ok:X.Ok) {b:Addr} {o:Obj} (e:X.base.get? b=some o):b∉X.fs:=fun hb=>by
 have:=(ok.uH.mem hb).1
 rw[e] at this;cases this
theorem Inv.bs (I:Inv X pins σ H s):∀b o,X.base.get? b=some o→s.heap.get? b=some o∧H b=none:=fun b o e=>
 ⟨I.base.keep b o (I.ok.bs b o e).1 (I.ok.bs b o e).2 (I.ok.HE e) (I.ok.Q6 b o e),I.base.free b o (I.ok.bs b o e).1 (I.ok.bs b o e).2 (I.ok.Q6 b o e)⟩
theorem Inv.bk (I:Inv X pins σ H s):∀b o,X.base.get? b=some o→s.heap.get? b=some o:=fun b o e=>(I.bs b o e).1
theorem Inv.mod (I:Inv X pins σ H s):Mod X.K X.mg X.base:=I.ok.mod
theorem Inv.pY (I:Inv X pins σ H s):X.K.In s.heap:=I.ok.mod.Xf.keeps I.bk
theorem Inv.fr (I:Inv X pins σ H s):∃m,Fr X.base X.env.locals s.heap m:=
 let ⟨m,hn,_⟩:=I.loc
 ⟨m,hn,I.bk,Nat.le_trans I.ok.JV I.ok.above⟩
theorem Inv.lt (I:Inv X pins σ H s):X.env.locals < s.heap.objs.size:=let ⟨_,hn,_⟩:=I.loc;hn.lt
theorem Inv.sz (I:Inv X pins σ H s):X.s₀.heap.objs.size≤s.heap.objs.size:=Nat.le_trans I.ok.above (Nat.le_of_lt I.lt)
theorem Inv.HA (I:Inv X pins σ H s) {a:Addr} (h:s.heap.objs.size≤a):a∉X.fs:=fun hb=>by
 obtain⟨_,o,ho,_⟩:=I.ok.uH.mem hb
 exact absurd (Nat.lt_of_lt_of_le (Heap.lt_size ho) (Nat.le_trans I.sz h)) (Nat.lt_irrefl _)
theorem Inv.WG (I:Inv X pins σ H s):∀x c,X.env.cells.lookup x=some c→c≠X.env.locals:=fun x c e z=>by
 obtain⟨v,o,ho,hd⟩:=I.cell x c e
 obtain⟨m,⟨o',es,ep,ho',hd',_⟩,_⟩:=I.loc
 rw[z,ho'] at ho;cases ho;rw[hd'] at hd;cases hd
theorem Inv.uH (I:Inv X pins σ H s):s.heap.FunFrames X.base X.outer:=by
 have all:∀(l:List Env),(∀b∈ao l,b∈X.fs)→X.s₀.heap.FunFrames X.base l→s.heap.FunFrames X.base l:=by
  intro l
  induction l with
  | nil=>intro _ _;trivial
  | cons env r ih=>
   intro hs hl
   obtain⟨hk,⟨L,o,hf,hn,ho,hd⟩,hr⟩:=hl
   have hL:L∈X.fs:=hs L (by unfold ao;rw[List.filterMap_cons,hf];exact List.mem_cons_self)
   obtain⟨sl,e⟩:=I.base.slot L o ho (I.ok.WL L hL) hL fun z=>I.ok.QM L z hL
   exact⟨hk,⟨L,_,hf,hn,e,hd⟩,ih (fun b hb=>hs b (by unfold ao;rw[List.filterMap_cons,hf];exact List.mem_cons_of_mem _ hb)) hr⟩
 exact all X.outer (fun _ hb=>hb) I.ok.uH
theorem Inv.stack (I:Inv X pins σ H s):s.heap.FunFrames X.base X.stack:=by
 rcases I.ok.Hu with e | ⟨e,hf⟩
 ·rw[e];exact I.uH
 ·rw[e]
  obtain⟨m,hn,_⟩:=I.loc
  refine .cons (by rw[I.ok.kind];decide) hf hn ?_ I.uH
  exact Heap.get?_none_of_le (Nat.le_trans I.ok.JV I.ok.above)
theorem Inv.sy (I:Inv X pins σ H s):∀b∈ao X.stack,b∈X.env.locals :: X.fs:=fun b hb=>by
 rcases I.ok.Hu with e | ⟨e,hf⟩
 ·rw[e] at hb;exact List.mem_cons_of_mem _ hb
 ·rw[e] at hb
  unfold ao at hb
  rw[List.filterMap_cons,hf] at hb
  exact hb
theorem Inv.cG (I:Inv X pins σ H s):∀b∈ao X.stack,H b=none:=fun b hb=>by
 rcases List.mem_cons.mp (I.sy b hb) with e | hb
 ·rw[e];exact I.free
 ·obtain⟨_,o,ho,_⟩:=I.ok.uH.mem hb
  exact I.base.free b o ho (I.ok.WL b hb) fun z=>I.ok.QM b z hb
theorem Inv.step {g':Array GenState} {t':Nat} {d':Drawn} {ch:List Addr} (I:Inv X pins σ H s)
  (hch:∀b∈ch,(b∈X.ex∨X.s₀.heap.objs.size≤b)∧b≠X.env.locals∧(∀x c,X.env.cells.lookup x=some c→c≠b)∧∀p∈X.pn ++ pins,p.1≠b)
  (keep:∀b o,b≠X.env.locals→b∉X.fs→b∉ch→s.heap.get? b=some o→H b=none→h'.get? b=some o)
  (slot:∀b o,b≠X.env.locals→b∈X.fs→b∉ch→s.heap.get? b=some o→H b=none→∃sl,h'.get? b=some { o with slots:=sl }) (free:∀b o,b∉ch→s.heap.get? b=some o→H b=none→H' b=none)
  (there:∀b o,b∉ch→s.heap.get? b=some o→∃o',h'.get? b=some o')
  (iy:∀b xs,H b=some (.tup xs)→H' b=some (.tup xs)) (sP:∀b o u,H b=some (.frz o u)→H' b=some (.frz o u)) (ij:∀b ps,H b=some (.tbl ps)→∃more,H' b=some (.tbl (ps ++ more)))
  (ns:∀m,s.heap.Ns X.env.locals m→h'.Ns X.env.locals m) (jc:pW X.prog X.w H' h') (hg:AllBare g') :
  Inv X pins σ H' { s with heap:=h',gens:=g',drawn:=d',toks:=t' }:=by
 have neL:∀b o,X.s₀.heap.get? b=some o→b≠X.env.locals:=fun b o e=>Nat.ne_of_lt (Nat.lt_of_lt_of_le (Heap.lt_size e) I.ok.above)
 have neC:∀b o,X.s₀.heap.get? b=some o→b∉X.ex→b∉ch:=fun b o e hx hb=>by
  rcases(hch b hb).1 with z | z
  ·exact hx z
  ·exact absurd (Nat.lt_of_lt_of_le (Heap.lt_size e) z) (Nat.lt_irrefl _)
 have cellK:∀x c,X.env.cells.lookup x=some c→∀v,s.heap.IsCell c v→h'.IsCell c v:=fun x c e v ⟨o,ho,hd⟩=>by
  have nch:c∉ch:=fun z=>(hch c z).2.2.1 x c e rfl
  by_cases hc:c∈X.fs
  ·obtain⟨sl,q⟩:=slot c o (I.WG x c e) hc nch ho (I.pk x c e)
   exact⟨_,q,hd⟩
  ·exact⟨o,keep c o (I.WG x c e) hc nch ho (I.pk x c e),hd⟩
 refine⟨I.ok,I.os,hg,⟨fun b o e n hb hx=>?_,fun b o e n hb hx=>?_,fun b o e n hx=>?_,fun b o e hx=>?_,fun b xs e=>iy b xs (I.base.iy b xs e),fun b o xs e=>sP b o xs (I.base.sP b o xs e),fun b ps e=>?_⟩,?_,fun x c e=>?_,?_,fun x c e=>?_,fun p hp=>?_,jc,I.len⟩
 ·exact keep b o (neL b o e) hb (neC b o e hx) (I.base.keep b o e n hb hx) (I.base.free b o e n hx)
 ·obtain⟨sl,e1⟩:=I.base.slot b o e n hb hx
  obtain⟨sl',e2⟩:=slot b _ (neL b o e) hb (neC b o e hx) e1 (I.base.free b o e n hx)
  exact⟨sl',e2⟩
 ·obtain⟨o',e1⟩:=I.base.there b o e hx
  exact free b o' (neC b o e hx) e1 (I.base.free b o e n hx)
 ·obtain⟨o',e1⟩:=I.base.there b o e hx
  exact there b o' (neC b o e hx) e1
 ·obtain⟨m1,e1⟩:=I.base.ij b ps e
  obtain⟨m2,e2⟩:=ij b _ e1
  exact⟨m1 ++ m2,by rw[e2,Array.append_assoc]⟩
 ·obtain⟨m,hn,hl⟩:=I.loc
  refine⟨m,ns m hn,fun i x v e1 e2 e3=>?_⟩
  obtain⟨u,r,l⟩:=hl i x v e1 e2 e3
  refine⟨u,r,?_⟩
  rcases l with l | ⟨k,c,e,z⟩
  ·exact .inl l
  ·exact .inr ⟨k,c,e,cellK x c e _ z⟩
 ·obtain⟨v,z⟩:=I.cell x c e
  exact⟨v,cellK x c e v z⟩
 ·obtain⟨m,⟨o,_,_,ho,_⟩,_⟩:=I.loc
  exact free _ o (fun z=>(hch _ z).2.1 rfl) ho I.free
 ·obtain⟨v,o,ho,hd⟩:=I.cell x c e
  exact free c o (fun z=>(hch c z).2.2.1 x c e rfl) ho (I.pk x c e)
 ·obtain⟨e,n,ne,nf,d⟩:=I.pin p hp
  have nch:p.1∉ch:=fun z=>(hch p.1 z).2.2.2 p hp rfl
  exact⟨keep p.1 p.2 ne nf nch e n,free p.1 p.2 nch e n,ne,nf,d⟩
theorem Inv.un {t':Nat} (I:Inv X pins σ H s) (u:Un X.fs [] H H' s.heap h') (jc:pW X.prog X.w H' h'):Inv X pins σ H' { s with heap:=h',toks:=t' }:=by
 obtain⟨m,⟨o,es,ep,ho,r⟩,_⟩:=id I.loc
 obtain⟨sl,hL⟩:=u.any ho I.free (by simp)
 exact I.step (g':=s.gens) (d':=s.drawn) (ch:=[]) (fun _ z=>nomatch z) (fun b o _ hb _ e n=>u.keep b o e n hb (by simp)) (fun b o _ hb _ e n=>u.slot b o e n hb (by simp)) (fun b o _ e n=>u.free b o e n (by simp)) (fun b o _ e=>u.there b o e (by simp)) u.iy u.sP u.ij (fun m' hm=>by
  obtain⟨o',es',ep',ho',r'⟩:=hm
  rw[ho] at ho';cases ho'
  exact⟨_,es',ep',hL,r'⟩) jc I.bare
theorem Inv.call {g':Array GenState} {t':Nat} {d':Drawn} {ch:List Addr} (I:Inv X pins σ H s) (u:Un (ao X.stack) ch H H' s.heap h') (jc:pW X.prog X.w H' h') (hg:AllBare g')
  (hch:∀b∈ch,(b∈X.ex∨X.s₀.heap.objs.size≤b)∧b≠X.env.locals∧(∀x c,X.env.cells.lookup x=some c→c≠b)∧∀p∈X.pn ++ pins,p.1≠b) :
  Inv X pins σ H' { s with heap:=h',gens:=g',drawn:=d',toks:=t' }:=by
 obtain⟨m,⟨o,es,ep,ho,r⟩,_⟩:=id I.loc
 obtain⟨sl,hL⟩:=u.any ho I.free fun z=>(hch _ z).2.1 rfl
 exact I.step (ch:=ch) hch (fun b o hL hb hc e n=>u.keep b o e n (fun z=>(List.mem_cons.mp (I.sy b z)).elim hL hb) hc) (fun b o _ _ hc e n=>u.any e n hc) (fun b o hc e n=>u.free b o e n hc) (fun b o hc e=>u.there b o e hc) u.iy u.sP u.ij (fun m' hm=>by
  obtain⟨o',es',ep',ho',r'⟩:=hm
  rw[ho] at ho';cases ho'
  exact⟨_,es',ep',hL,r'⟩) jc hg
theorem Inv.turned {t':Nat} {it:Addr} (I:Inv X pins σ H s) (k:∀b o,b≠it→s.heap.get? b=some o→h'.get? b=some o) (hn:H it=none) (hL:it≠X.env.locals)
  (h1:it∈X.ex∨X.s₀.heap.objs.size≤it) (h2:∀x c,X.env.cells.lookup x=some c→c≠it) (h3:∀p∈X.pn ++ pins,p.1≠it):Inv X pins σ H { s with heap:=h',toks:=t' }:=by
 have nit:∀b u,H b=some u→b≠it:=fun b u e z=>by rw[z,hn] at e;cases e
 refine I.step (g':=s.gens) (d':=s.drawn) (ch:=[it]) (fun b hb=>?_) (fun b o _ _ hc e _=>k b o (fun z=>hc (by simp [z])) e) (fun b o _ _ hc e _=>⟨o.slots,k b o (fun z=>hc (by simp [z])) e⟩) (fun _ _ _ _ n=>n)
  (fun b o hc e=>⟨o,k b o (fun z=>hc (by simp [z])) e⟩) (fun _ _ e=>e) (fun _ _ _ e=>e) (fun b ps e=>⟨#[],by rw[e];simp⟩) (fun m hm=>?_) (fun b u e=>?_) I.bare
 ·have e:b=it:=by simpa using hb
  subst e
  exact⟨h1,hL,h2,h3⟩
 ·obtain⟨o,es,ep,ho,r⟩:=hm
  exact⟨o,es,ep,k _ o (Ne.symm hL) ho,r⟩
 ·refine(I.jc b u e).ax (fun c v hc q=>k c v ?_ q) (fun _ q=>q) fun _ _ q=>q
  rcases hc with z | z
  ·rw[z];exact nit b u e
  ·exact nit c _ z
theorem Inv.tok (I:Inv X pins σ H s) (t:Nat):Inv X pins σ H { s with toks:=t }:=I.un (h':=s.heap) (t':=t) Un.refl I.jc
theorem Inv.kept {t':Nat} (I:Inv X pins σ H s) (k:∀b u,s.heap.get? b=some u→h'.get? b=some u):Inv X pins σ H { s with heap:=h',toks:=t' }:=I.un (Un.kept k) (I.jc.kept k)
theorem Inv.laid {a:Addr} {o:HO} {t':Nat} (I:Inv X pins σ H s) (k:∀b u,s.heap.get? b=some u→h'.get? b=some u) (hp:s.heap.objs.size≤a) (new:xb X.prog X.w (upd H a o) h' a o) :
  Inv X pins σ (upd H a o) { s with heap:=h',toks:=t' }:=I.un (Un.laid k hp (I.jc.fresh hp)) (I.jc.laid k hp new)
theorem Inv.write {x e:Addr} {o:HO} {t':Nat} (I:Inv X pins σ H s) (mu:Y3 (H x)) (he:e=x∨H e=some (.own x)) (k:∀b u,b≠e→s.heap.get? b=some u→h'.get? b=some u) (heo:∃u,h'.get? e=some u)
  (new:xb X.prog X.w (upd H x o) h' x o):Inv X pins σ (upd H x o) { s with heap:=h',toks:=t' }:=I.un (Un.write mu he k heo) (I.jc.write mu he k heo new)
theorem Inv.weak {σ':List (Option V)} (I:Inv X pins σ H s) (hl:σ'.length=σ.length) (w:∀(i:Nat) v,σ'[i]?=some (some v)→σ[i]?=some (some v)):Inv X pins σ' H s:=
 ⟨I.ok,I.os,I.bare,I.base,let ⟨m,hn,hl'⟩:=I.loc;⟨m,hn,fun i x v e1 e2 e3=>hl' i x v e1 (w i v e2) e3⟩,I.cell,I.free,I.pk,I.pin,I.jc,hl.trans I.len⟩
theorem Inv.oV {pins':List (Addr × Obj)} (I:Inv X pins σ H s) (h:∀p∈pins',s.heap.get? p.1=some p.2∧H p.1=none∧p.1≠X.env.locals∧p.1∉X.fs∧∀v,p.2.data≠.cell v):Inv X pins' σ H s:=
 ⟨I.ok,I.os,I.bare,I.base,I.loc,I.cell,I.free,I.pk,fun p hp=>(List.mem_append.mp hp).elim (fun z=>I.pin p (List.mem_append_left _ z)) (h p),I.jc,I.len⟩
theorem lV {N:List Str} (hN:N.Nodup) {i j:Nat} {x:Str} (a:N[i]?=some x) (b:N[j]?=some x):i=j:=by
 obtain⟨h1,e1⟩:=List.getElem?_eq_some_iff.mp a
 obtain⟨h2,e2⟩:=List.getElem?_eq_some_iff.mp b
 exact(List.getElem_inj hN).mp (e1.trans e2.symm)
theorem Je {M:Model} {A:Around} {E:Value→Shared→Prop} {i:Nat} {x:Str} {v:V} {u:Value} {Q:Unit→Shared→Prop} (I:Inv X pins σ H s) (hN:X.N.Nodup) (hi:X.N[i]?=some x) (hx:Loc X.env.scope x) (r:RelV v u)
  (h:∀s',Inv X pins (σ.set i (some v)) H s'→(∃a,Heap.SameBut a s.heap s'.heap∧(a=X.env.locals∨X.env.cells.lookup x=some a))→Q () s') (hf:X.fn x=true∨X.env.scope.names.lookup x=some .local:=by first | exact .inl rfl | exact .inr rfl | assumption):wpAny M A (storeName X.env x u) Q E s:=by
 obtain⟨m,hn,hl⟩:=id I.loc
 have hcls:(X.env.scope.kind == .class || (X.env.scope.kind == .module && X.env.locals != X.env.globals))=false:=by rw[I.ok.kind];rfl
 have hiσ:i < σ.length:=by rw[I.len];exact(List.getElem?_eq_some_iff.mp hi).1
 have WG:=I.WG
 have tracked:∀{a:Addr} {h':Heap},(∃o,s.heap.get? a=some o∧H a=none)→Heap.SameBut a s.heap h'→pW X.prog X.w H h':=fun {a h'} ha hs b ob e=>by
  obtain⟨_,_,hfree⟩:=ha
  refine(I.jc b ob e).ax (fun c w' hc q=>(hs.2 c ?_).trans q) (fun _ q=>q) fun _ _ q=>q
  rintro rfl
  rcases hc with rfl | hc
  ·rw[hfree] at e;cases e
  ·rw[hfree] at hc;cases hc
 rcases hx with hk | hk
 ·refine wpAny_storeName_local hk hn (fun h' hn' hs=>?_) hcls
  obtain⟨oL,_,_,hoL,_⟩:=id hn
  refine h _ ⟨I.ok,I.os,I.bare,⟨fun b o e n hb hx=>?_,fun b o e n hb hx=>?_,I.base.free,fun b o e hx=>?_,I.base.iy,I.base.sP,I.base.ij⟩,⟨_,hn',fun j y v' e1 e2 e3=>?_⟩,fun y c e=>?_,I.free,I.pk,fun p hp=>?_,tracked ⟨oL,hoL,I.free⟩ hs,by simpa using I.len⟩ ⟨_,hs,.inl rfl⟩
  ·exact(hs.2 b (Nat.ne_of_lt (Nat.lt_of_lt_of_le (Heap.lt_size e) I.ok.above))).trans (I.base.keep b o e n hb hx)
  ·obtain⟨sl,e1⟩:=I.base.slot b o e n hb hx
   exact⟨sl,(hs.2 b (Nat.ne_of_lt (Nat.lt_of_lt_of_le (Heap.lt_size e) I.ok.above))).trans e1⟩
  ·obtain⟨o',e1⟩:=I.base.there b o e hx
   exact⟨o',(hs.2 b (Nat.ne_of_lt (Nat.lt_of_lt_of_le (Heap.lt_size e) I.ok.above))).trans e1⟩
  ·by_cases hj:j=i
   ·subst hj
    rw[hi] at e1;cases e1
    rw[List.getElem?_set_self hiσ] at e2
    cases e2
    exact⟨u,r,.inl ⟨hk,by simp⟩⟩
   ·rw[List.getElem?_set_ne (Ne.symm hj)] at e2
    obtain⟨u',r',q⟩:=hl j y v' e1 e2 e3
    refine⟨u',r',?_⟩
    rcases q with ⟨k,e⟩ | ⟨k,c,e,z⟩
    ·refine .inl ⟨k,?_⟩
     have:y≠x:=fun e=>hj (lV hN e1 (e▸hi))
     simp [this,e]
    ·exact .inr ⟨k,c,e,z.sameBut hs (WG y c e)⟩
  ·obtain⟨w',z⟩:=I.cell y c e
   exact⟨w',z.sameBut hs (WG y c e)⟩
  ·obtain⟨e,n,ne,nf,d⟩:=I.pin p hp
   exact⟨(hs.2 p.1 ne).trans e,n,ne,nf,d⟩
 ·have hfn:X.fn x=true:=by
   rcases hf with z | z
   ·exact z
   ·rw[z] at hk;cases hk
  obtain⟨c,hc⟩:=I.ok.has x (.inl hk)
  obtain⟨w',z⟩:=I.cell x c hc
  refine wpAny_storeName_cell I.ok.kind hk hc z (fun h' hc' hs=>?_)
  obtain⟨oc,hoc,hocd⟩:=id z
  refine h { s with heap:=h' } ⟨I.ok,I.os,I.bare,⟨fun b o e n hb hx=>?_,fun b o e n hb hx=>?_,I.base.free,fun b o e hx=>?_,I.base.iy,I.base.sP,I.base.ij⟩,⟨m,hn.sameBut hs (Ne.symm (WG x c hc)),fun j y v' e1 e2 e3=>?_⟩,fun y c' e=>?_,I.free,I.pk,fun p hp=>?_,tracked ⟨oc,hoc,I.pk x c hc⟩ hs,by simpa using I.len⟩ ⟨c,hs,.inr hc⟩
  ·exact(hs.2 b (Nat.ne_of_lt (Nat.lt_of_lt_of_le (Heap.lt_size e) (I.ok.Gq x c hfn hc)))).trans (I.base.keep b o e n hb hx)
  ·obtain⟨sl,e1⟩:=I.base.slot b o e n hb hx
   exact⟨sl,(hs.2 b (Nat.ne_of_lt (Nat.lt_of_lt_of_le (Heap.lt_size e) (I.ok.Gq x c hfn hc)))).trans e1⟩
  ·obtain⟨o',e1⟩:=I.base.there b o e hx
   exact⟨o',(hs.2 b (Nat.ne_of_lt (Nat.lt_of_lt_of_le (Heap.lt_size e) (I.ok.Gq x c hfn hc)))).trans e1⟩
  ·by_cases hj:j=i
   ·subst hj
    rw[hi] at e1;cases e1
    rw[List.getElem?_set_self hiσ] at e2
    cases e2
    exact⟨u,r,.inr ⟨.inl hk,c,hc,hc'⟩⟩
   ·rw[List.getElem?_set_ne (Ne.symm hj)] at e2
    obtain⟨u',r',q⟩:=hl j y v' e1 e2 e3
    refine⟨u',r',?_⟩
    rcases q with q | ⟨k,c',e,z'⟩
    ·exact .inl q
    ·refine .inr ⟨k,c',e,z'.sameBut hs ?_⟩
     rintro rfl
     exact hj (lV hN e1 (I.ok.inj _ _ _ e hc▸hi))
  ·by_cases hcc:c'=c
   ·subst hcc;exact⟨_,hc'⟩
   ·obtain⟨w2,z2⟩:=I.cell y c' e
    exact⟨w2,z2.sameBut hs hcc⟩
  ·obtain⟨e,n,ne,nf,d⟩:=I.pin p hp
   refine⟨(hs.2 p.1 ?_).trans e,n,ne,nf,d⟩
   intro q
   rw[q,hoc] at e
   have q':oc=p.2:=Option.some.inj e
   exact d w' (by rw[←q'];exact hocd)
theorem sg {M:Model} {A:Around} {E:Value→Shared→Prop} {i:Nat} {x:Str} {v:V} {u:Value} {Q:Unit→Shared→Prop} (I:Inv X pins σ H s) (hN:X.N.Nodup) (hi:X.N[i]?=some x) (hx:Loc X.env.scope x) (r:RelV v u)
  (h:∀s',Inv X pins (σ.set i (some v)) H s'→Q () s') (hf:X.fn x=true∨X.env.scope.names.lookup x=some .local:=by first | exact .inl rfl | exact .inr rfl | assumption):wpAny M A (storeName X.env x u) Q E s:=
 Je I hN hi hx r (fun s' I' _=>h s' I') hf
theorem Inv.JO {s':Shared} {ch:List Addr} (I:Inv X pins σ H s) (ho:s'.os=s.os) (u:Un (ao X.stack) ch H H' s.heap s'.heap) (jc:pW X.prog X.w H' s'.heap) (hg:AllBare s'.gens)
  (hch:∀b∈ch,(b∈X.ex∨X.s₀.heap.objs.size≤b)∧b≠X.env.locals∧(∀x c,X.env.cells.lookup x=some c→c≠b)∧∀p∈X.pn ++ pins,p.1≠b):Inv X pins σ H' s':=by
 obtain⟨h',g',d',t',o'⟩:=s'
 have e:o'=s.os:=ho
 subst e
 exact I.call (g':=g') (t':=t') (d':=d') u jc hg hch
end
noncomputable abbrev XK:=Value→Option Addr→Hp→Prop
noncomputable abbrev St:=List (Option V)
noncomputable abbrev VK:=V→Hp→Prop
noncomputable abbrev TE:=St→Hp→VK→Prop
noncomputable abbrev TT:=St→Hp→(Bool→Hp→Prop)→Prop
noncomputable abbrev TA:=St→Hp→(List V→Hp→Prop)→Prop
structure Ends where
 nx:St→Hp→Prop
 rt:VK
 bk:St→Hp→Prop:=fun _ _=>False
 ct:St→Hp→Prop:=fun _ _=>False
noncomputable abbrev TS:=Ends→St→Hp→Prop
noncomputable def EP (X:Cx) (pins:List (Addr × Obj)) (σ:St) (Q:VK) (u:Value) (s':Shared):Prop:=∃v H',Inv X pins σ H' s'∧RelV v u∧Q v H'
noncomputable def TP (X:Cx) (pins:List (Addr × Obj)) (σ:St) (Q:Bool→Hp→Prop) (b:Bool) (s':Shared):Prop:=∃H',Inv X pins σ H' s'∧Q b H'
noncomputable def AP (X:Cx) (pins:List (Addr × Obj)) (σ:St) (Q:List V→Hp→Prop) (us:List Value) (s':Shared):Prop:=∃vs H',Inv X pins σ H' s'∧Vals vs us∧Q vs H'
noncomputable def SP (X:Cx) (pins:List (Addr × Obj)) (D:Ends) (f:Flow) (s':Shared):Prop:=
 match f with
 | .next=>∃σ' H',Inv X pins σ' H' s'∧D.nx σ' H'
 | .brk=>∃σ' H',Inv X pins σ' H' s'∧D.bk σ' H'
 | .cont=>∃σ' H',Inv X pins σ' H' s'∧D.ct σ' H'
 | .ret u=>∃v σ' H',Inv X pins σ' H' s'∧RelV v u∧D.rt v H'
noncomputable def PE (X:Cx) (e:Expr) (t:TE):Prop:=
 ∀(pins:List (Addr × Obj)) (s:Shared) (σ:St) (H:Hp) (Q:VK),Inv X pins σ H s→t σ H Q→wpAny (model X.prog X.w) X.A (eval e X.env) (EP X pins σ Q) X.xe s
noncomputable def PT (X:Cx) (e:Expr) (t:TT):Prop:=
 ∀(pins:List (Addr × Obj)) (s:Shared) (σ:St) (H:Hp) (Q:Bool→Hp→Prop),Inv X pins σ H s→t σ H Q→wpAny (model X.prog X.w) X.A (isTrue e X.env (eval e X.env)) (TP X pins σ Q) X.xe s
noncomputable def PW (X:Cx) (e:Expr) (t:TT):Prop:=
 ∀(whole:Sem Value) (pins:List (Addr × Obj)) (s:Shared) (σ:St) (H:Hp) (Q:Bool→Hp→Prop),Inv X pins σ H s→t σ H Q→wpAny (model X.prog X.w) X.A (isTrue e X.env whole) (TP X pins σ Q) X.xe s
theorem PW.pt {X:Cx} {e:Expr} {t:TT} (h:PW X e t):PT X e t:=h _
noncomputable def PA (X:Cx) (es:List Expr) (t:TA):Prop:=
 ∀(pos:Pos) (pins:List (Addr × Obj)) (s:Shared) (σ:St) (H:Hp) (Q:List V→Hp→Prop),Inv X pins σ H s→t σ H Q→wpAny (model X.prog X.w) X.A (spliced (backTo pos (starEach es X.env))) (AP X pins σ Q) X.xe s
noncomputable def PS (X:Cx) (st:Stmt) (t:TS):Prop:=
 ∀(pins:List (Addr × Obj)) (s:Shared) (σ:St) (H:Hp) (D:Ends),Inv X pins σ H s→t D σ H→wpAny (model X.prog X.w) X.A (exec st X.env) (SP X pins D) X.xe s
noncomputable def ZV (X:Cx) (st:List Stmt) (t:TS):Prop:=
 ∀(pins:List (Addr × Obj)) (s:Shared) (σ:St) (H:Hp) (D:Ends),Inv X pins σ H s→t D σ H→wpAny (model X.prog X.w) X.A (execs st X.env) (SP X pins D) X.xe s
theorem xl {α:Type} {t:Sem α} {Q Q':α→Shared→Prop} {M:Model} {A:Around} {E:Value→Shared→Prop} {s:Shared} (h:wpAny M A t Q E s) (hQ:∀a s,Q a s→Q' a s):wpAny M A t Q' E s:=wpAny_mono h hQ fun _ _ x=>x
end L2
namespace L2
open PySem PySem.Spec PyProof.Rows
section
variable {X:Cx}
theorem bin {a b:Expr} {ta tb:TE} (ha:PE X a ta) (hb:PE X b tb) {pins:List (Addr × Obj)} {s:Shared} {σ:St} {H:Hp} {R:V→V→Hp→Prop} (I:Inv X pins σ H s) (h:ta σ H fun x H1=>tb σ H1 fun y H2=>R x y H2)
  {α:Type} {Q:α→Shared→Prop} {f:Value→Value→Sem α}
  (hf:∀v u s2 x y H2,Inv X pins σ H2 s2→RelV x v→RelV y u→R x y H2→wpAny (model X.prog X.w) X.A (f v u) Q X.xe s2) :
  wpAny (model X.prog X.w) X.A (eval a X.env) (fun v s₁=>wpAny (model X.prog X.w) X.A (eval b X.env) (fun u s₂=>wpAny (model X.prog X.w) X.A (f v u) Q X.xe s₂) X.xe s₁) X.xe s:=by
 refine xl (ha pins s σ H _ I h) fun v s1 ⟨x,H1,I1,r1,q1⟩=>?_
 refine xl (hb pins s1 σ H1 _ I1 q1) fun u s2 ⟨y,H2,I2,r2,q2⟩=>?_
 exact hf v u s2 x y H2 I2 r1 r2 q2
noncomputable def G7 (i:Nat):TE:=fun σ H Q=>∃v,σ[i]?=some (some v)∧Q v H
noncomputable def tC (v:V):TE:=fun _ H Q=>Q v H
theorem Yh {i:Nat} {x:Str} {pos:Pos} (hN:X.N[i]?=some x) (hv:HX X.env.scope x) (hd:(x == ("__debug__" : Str))=false:=by decide) (hcd:(x == ("__classdict__" : Str))=false:=by decide):PE X (.Name x pos) (G7 i):=by
 intro pins s σ H Q I h
 obtain⟨v,e,h⟩:=h
 obtain⟨m,hn,hl⟩:=I.loc
 obtain⟨u,r,l⟩:=hl i x v hN e hv
 have fin:EP X pins σ Q u s:=⟨v,H,I,r,h⟩
 rcases l with ⟨hk,hm⟩ | ⟨hk,c,hc,hcell⟩
 ·exact wpAny_Name (wpAny_loadName_local I.ok.kind hk hn hm fin) hd
 ·rcases hk with hk | hk
  ·exact wpAny_Name (wpAny_loadName_cell I.ok.kind hk hc hcell fin) hd
  ·exact wpAny_Name (wpAny_loadName_free I.ok.kind hk hc hcell fin hcd) hd
theorem z7 {i j pos}:PE X (.Constant (.int i) j pos) (tC (.int i)):=fun _ _ _ H _ I h=>wpAny_Constant_int ⟨.int i,H,I.tok _,⟨_,rfl⟩,h⟩
theorem gB {b j pos}:PE X (.Constant (.bool b) j pos) (tC (.bl b)):=fun _ _ _ H _ I h=>Constant_bool ⟨.bl b,H,I,rfl,h⟩
theorem bN {j pos}:PE X (.Constant .none j pos) (tC .non):=fun _ _ _ H _ I h=>Constant_none ⟨.non,H,I,rfl,h⟩
theorem qq {x j pos}:PE X (.Constant (.str x) j pos) (tC (.str x)):=fun _ _ _ H _ I h=>Calls.Constant_str ⟨.str x,H,I.tok _,⟨_,rfl⟩,h⟩
noncomputable def Gl (X:Cx) (x:Str):Prop:=X.env.kindOf x=some .globalImplicit
theorem fO {E:Value→Shared→Prop} {pins:List (Addr × Obj)} {s:Shared} {σ:St} {H:Hp} {x:Str} {u:Value} {pos:Pos} {Q:Value→Shared→Prop} (I:Inv X pins σ H s) (hg:Gl X x) (hm:X.mg x=some u) (h:Q u s)
  (hd:(x == ("__debug__" : Str))=false:=by decide):wpAny (model X.prog X.w) X.A (eval (.Name x pos) X.env) Q E s:=
 Calls.Name_function_global I.ok.kind hg (Calls.loadGlobal_global (by rw[I.ok.glob];exact I.mod.glob.keeps I.bk) hm h) hd
theorem cO {E:Value→Shared→Prop} {pins:List (Addr × Obj)} {s:Shared} {σ:St} {H:Hp} {x:Str} {u:Value} {pos:Pos} {Q:Value→Shared→Prop} (I:Inv X pins σ H s) (hg:Gl X x) (hm:X.mg x=none) (hv:bootBuiltins x=some u) (h:Q u s)
  (hn:x≠"__name__":=by decide) (hd:(x == ("__debug__" : Str))=false:=by decide):wpAny (model X.prog X.w) X.A (eval (.Name x pos) X.env) Q E s:=by
 obtain⟨mb,h1,h2⟩:=I.mod.blt
 exact Calls.Name_function_global I.ok.kind hg (Calls.loadGlobal_builtin (by rw[I.ok.glob];exact I.mod.glob.keeps I.bk) hm (by rw[I.ok.blt];exact h1.keeps I.bk) ((h2 x hn).trans hv) h) hd
theorem jD {x:Str} {v:V} {u:Value} {pos:Pos} (hg:Gl X x) (hm:X.mg x=some u) (r:RelV v u) (hd:(x == ("__debug__" : Str))=false:=by decide):PE X (.Name x pos) (tC v):=
 fun _ _ _ H _ I h=>fO I hg hm ⟨v,H,I,r,h⟩ hd
theorem rk {x:Str} {v:V} {u:Value} {pos:Pos} (hg:Gl X x) (hm:X.mg x=none) (hv:bootBuiltins x=some u) (r:RelV v u) (hn:x≠"__name__":=by decide) (hd:(x == ("__debug__" : Str))=false:=by decide):PE X (.Name x pos) (tC v):=
 fun _ _ _ H _ I h=>cO I hg hm hv ⟨v,H,I,r,h⟩ hn hd
noncomputable def Hr (ta tb:TE) (k:Int→Int→Hp→Prop):St→Hp→Prop:=fun σ H=>ta σ H fun x H1=>tb σ H1 fun y H2=>∃i j,x=.int i∧y=.int j∧k i j H2
noncomputable def PY (ta tb:TE):TE:=fun σ H Q=>Hr ta tb (fun i j H2=>Q (.int (i + j)) H2) σ H
noncomputable def P1 (ta tb:TE):TE:=fun σ H Q=>Hr ta tb (fun i j H2=>Q (.int (i - j)) H2) σ H
noncomputable def PU (ta tb:TE):TE:=fun σ H Q=>Hr ta tb (fun i j H2=>(-(2 ^ 64) < i∧i < 2 ^ 64)∧Q (.int (i * j)) H2) σ H
variable {a b:Expr} {ta tb:TE} {pos:Pos}
noncomputable def PC (X:Cx) (op:CmpOp) (a b:Expr) (t:TE):Prop:=
 ∀(pins:List (Addr × Obj)) (s:Shared) (σ:St) (H:Hp) (Q:VK),Inv X pins σ H s→t σ H Q→
  wpAny (model X.prog X.w) X.A (eval a X.env) (fun v s₁=>wpAny (model X.prog X.w) X.A (eval b X.env) (fun u s₂=>wpAny (model X.prog X.w) X.A (compareOp op v u) (EP X pins σ Q) X.xe s₂) X.xe s₁) X.xe s
noncomputable def Ja (p:Int→Int→Bool) (ta tb:TE):TE:=fun σ H Q=>Hr ta tb (fun i j H2=>Q (.bl (p i j)) H2) σ H
noncomputable abbrev Fd:TE→TE→TE:=Ja fun i j=>decide (i < j)
noncomputable abbrev Ff:TE→TE→TE:=Ja fun i j=>decide (i≤j)
noncomputable abbrev Fb:TE→TE→TE:=Ja fun i j=>decide (j < i)
noncomputable abbrev Fh:TE→TE→TE:=Ja fun i j=>decide (j≤i)
noncomputable abbrev PM:TE→TE→TE:=Ja fun i j=>decide (i=j)
noncomputable abbrev PR:TE→TE→TE:=Ja fun i j=>!decide (i=j)
noncomputable def PD (ta:TE):TE:=fun σ H Q=>ta σ H fun x H1=>Q (.bl (decide (x=.non))) H1
noncomputable def B3 (ta:TE):TE:=fun σ H Q=>ta σ H fun x H1=>Q (.bl (!decide (x=.non))) H1
noncomputable def tB (t:TE):TT:=fun σ H Q=>t σ H fun x H1=>∃c,x=.bl c∧Q c H1
theorem XE {op:CmpOp} {t:TE} (h:PC X op a b t) (h1:behindInMarks op b=false:=by first | exact nobehind _ (by decide) (by decide) | rfl):PT X (.Compare a [op] [b] pos) (tB t):=by
 intro pins s σ H Q I hw
 refine wpAny_isTrue_Compare1 (xl (h pins s σ H _ I hw) fun v s1 h1=>xl h1 fun u s2 h2=>xl h2 fun c s3 ⟨x,H1,I1,r1,q1⟩=>?_) h1
 obtain⟨d,rfl,q⟩:=q1
 cases r1
 exact wpAny_truthy_bool ⟨H1,I1,q⟩
theorem xu {e:Expr} {t:TE} (h:PE X e t) (he:∀whole,isTrue e X.env whole=(do let v ←whole;standAt e.pos;holding [v] (truthy v)):=by intro _;rfl):PT X e (tB t):=by
 intro pins s σ H Q I hw
 refine isTrue_plain (xl (h pins s σ H _ I hw) fun v s1 ⟨x,H1,I1,r1,q1⟩=>?_) (he _)
 obtain⟨d,rfl,q⟩:=q1
 cases r1
 exact wpAny_truthy_bool ⟨H1,I1,q⟩
variable {tA tB':TT} {rest:List Expr}
noncomputable def Bb (t u:TT):TT:=fun σ H Q=>t σ H fun c H1=>if c=true then u σ H1 Q else Q false H1
noncomputable def PL (t u:TT):TT:=fun σ H Q=>t σ H fun c H1=>if c=true then Q true H1 else u σ H1 Q
noncomputable def Ba (t:TT):TT:=fun σ H Q=>t σ H fun c H1=>Q (!c) H1
theorem rg (ha:PT X a tA):PW X (.BoolOp .And [a] pos) tA:=by
 intro wh pins s σ H Q I h
 refine isTrue_and (xl (ha pins s σ H Q I h) fun c s1 e=>?_)
 cases c with
 | true=>exact isTrue_and_nil e
 | false=>exact e
theorem wC (ha:PT X a tA):PW X (.BoolOp .Or [a] pos) tA:=by
 intro wh pins s σ H Q I h
 refine isTrue_or (xl (ha pins s σ H Q I h) fun c s1 e=>?_)
 cases c with
 | false=>exact isTrue_or_nil e
 | true=>exact e
theorem oW (ha:PT X a tA) (hb:PW X (.BoolOp .And (b :: rest) pos) tB'):PW X (.BoolOp .And (a :: b :: rest) pos) (Bb tA tB'):=by
 intro wh pins s σ H Q I h
 refine isTrue_and (xl (ha pins s σ H _ I h) fun c s1 ⟨H1,I1,q1⟩=>?_)
 cases c with
 | true=>exact hb wh pins s1 σ H1 Q I1 q1
 | false=>exact⟨H1,I1,q1⟩
theorem gp (ha:PT X a tA) (hb:PW X (.BoolOp .Or (b :: rest) pos) tB'):PW X (.BoolOp .Or (a :: b :: rest) pos) (PL tA tB'):=by
 intro wh pins s σ H Q I h
 refine isTrue_or (xl (ha pins s σ H _ I h) fun c s1 ⟨H1,I1,q1⟩=>?_)
 cases c with
 | true=>exact⟨H1,I1,q1⟩
 | false=>exact hb wh pins s1 σ H1 Q I1 q1
theorem yX (ha:PT X a tA):PT X (.UnaryOp .Not a pos) (Ba tA):=by
 intro pins s σ H Q I h
 exact isTrue_not (ha pins s σ H (fun c H1=>Q (!c) H1) I h)
noncomputable def GA (ta tb:TE):TE:=fun σ H Q=>ta σ H fun x H1=>∃c,x=.bl c∧if c=true then tb σ H1 Q else Q (.bl false) H1
noncomputable def BZ (ta tb:TE):TE:=fun σ H Q=>ta σ H fun x H1=>∃c,x=.bl c∧if c=true then Q (.bl true) H1 else tb σ H1 Q
noncomputable def B4 (ta:TE):TE:=fun σ H Q=>ta σ H fun x H1=>∃c,x=.bl c∧Q (.bl (!c)) H1
theorem oK {op} {t:TE} (h:PE X a t):PE X (.BoolOp op [a] pos) t:=fun pins s σ H Q I hw=>BoolOp_one (h pins s σ H Q I hw)
theorem Zx (ha:PE X a ta) (hb:PE X (.BoolOp .And (b :: rest) pos) tb):PE X (.BoolOp .And (a :: b :: rest) pos) (GA ta tb):=by
 intro pins s σ H Q I h
 refine BoolOp_and (xl (ha pins s σ H _ I h) fun v s1 ⟨x,H1,I1,r1,q1⟩=>?_)
 obtain⟨c,rfl,q1⟩:=q1
 cases r1
 refine wpAny_truthy_bool ?_
 cases c with
 | true=>exact hb pins s1 σ H1 Q I1 q1
 | false=>exact⟨.bl false,H1,I1,rfl,q1⟩
theorem GJ (ha:PE X a ta) (hb:PE X (.BoolOp .Or (b :: rest) pos) tb):PE X (.BoolOp .Or (a :: b :: rest) pos) (BZ ta tb):=by
 intro pins s σ H Q I h
 refine BoolOp_or (xl (ha pins s σ H _ I h) fun v s1 ⟨x,H1,I1,r1,q1⟩=>?_)
 obtain⟨c,rfl,q1⟩:=q1
 cases r1
 refine wpAny_truthy_bool ?_
 cases c with
 | false=>exact hb pins s1 σ H1 Q I1 q1
 | true=>exact⟨.bl true,H1,I1,rfl,q1⟩
noncomputable def Fp (t:TT) (ta tb:TE):TE:=fun σ H Q=>t σ H fun c H1=>if c=true then ta σ H1 Q else tb σ H1 Q
end
end L2
namespace L2
open PySem PySem.Spec PyProof.Rows
noncomputable def qD (K:PySem.W.Frag) (H:Hp) (a:Addr) (xs:List V):Prop:=
 Rd H a (.lst xs)∨
  ∃(o:Obj) (its:Array Value) (n:Nat),K.lookup a=some o∧o.cls=.type "list"∧o.dict=none∧o.data=.seq its n∧its.size≤sizeLine∧Vals xs its.toList
noncomputable def yy (K:PySem.W.Frag) (H:Hp) (a:Addr) (xs:List V):Prop:=
 Rd H a (.tup xs)∨
  ∃(o:Obj) (its:Array Value) (n:Nat),K.lookup a=some o∧o.cls=.type "tuple"∧o.data=.seq its n∧its.size≤sizeLine∧Vals xs its.toList
noncomputable def HW:Value→Option V
 | .none=>some .non
 | .bool b=>some (.bl b)
 | .int i _=>some (.int i)
 | .str x _=>some (.str x)
 | .bytes b _=>some (.byt b)
 | .float b _=>some (.flt b)
 | .ref a=>some (.ref a)
 | .type n=>some (.ty n)
 | _=>none
theorem RelV.abs {x:V} {u:Value} (r:RelV x u):HW u=some x:=by
 cases x with
 | non=>cases r;rfl
 | bl _=>cases r;rfl
 | int _=>obtain⟨t,rfl⟩:=r;rfl
 | str _=>obtain⟨t,rfl⟩:=r;rfl
 | byt _=>obtain⟨t,rfl⟩:=r;rfl
 | flt _=>obtain⟨t,rfl⟩:=r;rfl
 | ref _=>cases r;rfl
 | ty _=>cases r;rfl
theorem RelV.inj {x y:V} {u:Value} (r:RelV x u) (q:RelV y u):x=y:=Option.some.inj (r.abs.symm.trans q.abs)
theorem Vals.inj:∀{xs ys:List V} {us:List Value},Vals xs us→Vals ys us→xs=ys
 | _,_,_,.nil,.nil=>rfl
 | _,_,_,.cons r t,.cons r' t'=>by rw[r.inj r',Vals.inj t t']
section
variable {X:Cx} {pins:List (Addr × Obj)} {σ:St} {H:Hp} {s:Shared} {a:Addr} {xs ys:List V}
theorem qD.of {K:PySem.W.Frag} (h:H a=some (.lst xs)):qD K H a xs:=.inl (.inl h)
theorem yy.of {K:PySem.W.Frag} (h:H a=some (.tup xs)):yy K H a xs:=.inl (.inl h)
theorem Inv.list (I:Inv X pins σ H s) (h:qD X.K H a xs):∃its:List Value,Vals xs its∧PlainL s.heap a its.toArray∧xs.length≤sizeLine:=by
 rcases h with h | ⟨o,its,n,hk,hc,hd,hs,hz,r⟩
 ·obtain⟨z,its,n,r,e⟩:=h.ok I.jc
  exact⟨its,r,⟨_,n,e,rfl,rfl,rfl⟩,z⟩
 ·refine⟨its.toList,r,⟨o,n,I.pY a o hk,hc,hd,by simpa using hs⟩,?_⟩
  have e:=r.length
  simp only[Array.length_toList] at e
  omega
theorem Inv.tuple (I:Inv X pins σ H s) (h:yy X.K H a xs):∃its:List Value,Vals xs its∧IsTup s.heap a its.toArray∧xs.length≤sizeLine:=by
 rcases h with h | ⟨o,its,n,hk,hc,hs,hz,r⟩
 ·obtain⟨z,its,r,p⟩:=h.ok I.jc
  exact⟨its,r,p,z⟩
 ·refine⟨its.toList,r,⟨o,I.pY a o hk,hc,n,by simpa using hs⟩,?_⟩
  have e:=r.length
  simp only[Array.length_toList] at e
  omega
theorem Inv.lz (I:Inv X pins σ H s) (h:qD X.K H a xs) (h':qD X.K H a ys):xs=ys:=by
 obtain⟨its,r,⟨o,n,e,_,_,d⟩,_⟩:=I.list h
 obtain⟨its',r',⟨o',n',e',_,_,d'⟩,_⟩:=I.list h'
 rw[e] at e';cases e'
 rw[d] at d'
 injection d' with d1 _
 have:its=its':=by simpa using congrArg Array.toList d1
 subst this
 exact r.inj r'
end
noncomputable abbrev Cx.tw (X:Cx) (E:Value→Shared→Prop):Cx:={ X with xe:=E }
noncomputable abbrev Cx.Hb (X:Cx):Cx:=X.tw fun _ _=>False
theorem Cx.Ok.tw {X:Cx} (ok:X.Ok) (E:Value→Shared→Prop):(X.tw E).Ok:=
 ⟨ok.mod,ok.kind,ok.glob,ok.blt,ok.above,ok.inj,ok.has,ok.Gq,ok.hd,ok.frames,ok.Hu,ok.YI,ok.bs,ok.JV,ok.Q6,ok.QM,ok.uH,ok.WL⟩
theorem Cx.Ok.fW {X:Cx} {E:Value→Shared→Prop} (ok:(X.tw E).Ok):X.Ok:=
 ⟨ok.mod,ok.kind,ok.glob,ok.blt,ok.above,ok.inj,ok.has,ok.Gq,ok.hd,ok.frames,ok.Hu,ok.YI,ok.bs,ok.JV,ok.Q6,ok.QM,ok.uH,ok.WL⟩
section
variable {X:Cx} {pins:List (Addr × Obj)} {σ:St} {H:Hp} {s:Shared} {E:Value→Shared→Prop}
theorem Inv.tw (I:Inv X pins σ H s) (E:Value→Shared→Prop):Inv (X.tw E) pins σ H s:=⟨I.ok.tw E,I.os,I.bare,I.base,I.loc,I.cell,I.free,I.pk,I.pin,I.jc,I.len⟩
theorem Inv.fW (I:Inv (X.tw E) pins σ H s):Inv X pins σ H s:=⟨I.ok.fW,I.os,I.bare,I.base,I.loc,I.cell,I.free,I.pk,I.pin,I.jc,I.len⟩
theorem SP.fW {D:Ends} {f:Flow} {s':Shared} (h:SP (X.tw E) pins D f s'):SP X pins D f s':=by
 cases f with
 | next=>obtain⟨σ',H',I,q⟩:=h;exact⟨σ',H',I.fW,q⟩
 | brk=>obtain⟨σ',H',I,q⟩:=h;exact⟨σ',H',I.fW,q⟩
 | cont=>obtain⟨σ',H',I,q⟩:=h;exact⟨σ',H',I.fW,q⟩
 | ret u=>obtain⟨v,σ',H',I,r,q⟩:=h;exact⟨v,σ',H',I.fW,r,q⟩
theorem ZV.Hb {st:List Stmt} {t:TS} (h:ZV X.Hb st t):ZV X st t:=fun pins s σ H D I hw=>
 wpAny_mono (h pins s σ H D (I.tw _) hw) (fun _ _ q=>q.fW) fun _ _ z=>False.elim z
end
section
variable {X:Cx} {st:Stmt} {rest:List Stmt} {t u:TS} {e:Expr} {te:TE} {pos:Pos}
noncomputable def G3:TS:=fun D σ H=>D.nx σ H
noncomputable def BJ (t u:TS):TS:=fun D σ H=>t { D with nx:=u D } σ H
theorem qr:ZV X [] G3:=fun _ _ σ H _ I h=>wpAny_execs_nil ⟨σ,H,I,h⟩
theorem z6 (h1:PS X st t) (h2:ZV X rest u):ZV X (st :: rest) (BJ t u):=by
 intro pins s σ H D I h
 refine wpAny_execs_cons (xl (h1 pins s σ H { D with nx:=u D } I h) fun f s1 q=>?_)
 cases f with
 | next=>
  obtain⟨σ',H',I',q⟩:=q
  exact h2 pins s1 σ' H' D I' q
 | ret v=>exact q
 | brk=>exact q
 | cont=>exact q
theorem z8 (h1:PS X st t):ZV X [st] t:=by
 intro pins s σ H D I h
 refine wpAny_execs_cons (xl (h1 pins s σ H D I h) fun f s1 q=>?_)
 cases f with
 | next=>exact wpAny_execs_nil q
 | ret v=>exact q
 | brk=>exact q
 | cont=>exact q
noncomputable def YW:TS:=fun D σ H=>D.bk σ H
noncomputable def BA:TS:=fun D σ H=>D.ct σ H
theorem XI:PS X (.Break pos) YW:=fun _ _ σ H _ I h=>wpAny_Break ⟨σ,H,I,h⟩
theorem Inv.quiet {pins:List (Addr × Obj)} {σ:St} {H:Hp} {s:Shared} (I:Inv X pins σ H s):interactive X.env=false:=by simp [interactive,I.ok.kind]
noncomputable def G1 (te:TE):TS:=fun D σ H=>te σ H fun _ H1=>D.nx σ H1
theorem q0 (he:PE X e te) (hs:swapsWith e none pos.line X.env=pure false:=by rfl):PS X (.Expr e pos) (G1 te):=by
 intro pins s σ H D I h
 exact wpAny_Expr_any (xl (he pins s σ H _ I h) fun v s1 ⟨x,H1,I1,r1,q1⟩=>⟨σ,H1,I1,q1⟩) I.quiet hs
noncomputable def BQ (te:TE):TS:=fun D σ H=>te σ H D.rt
theorem qw (he:PE X e te):PS X (.Return (some e) pos) (BQ te):=by
 intro pins s σ H D I h
 exact wpAny_Return_some (xl (he pins s σ H _ I h) fun v s1 ⟨x,H1,I1,r1,q1⟩=>⟨x,σ,H1,I1,r1,q1⟩)
noncomputable def B5:TS:=fun D _ H=>D.rt .non H
noncomputable def Bn (c:TT) (t u:TS):TS:=fun D σ H=>c σ H fun b H1=>if b=true then t D σ H1 else u D σ H1
theorem qP {c:Expr} {a b:List Stmt} {tc:TT} (hc:PT X c tc) (ha:ZV X a t) (hb:ZV X b u):PS X (.If c a b pos) (Bn tc t u):=by
 intro pins s σ H D I h
 refine wpAny_If (xl (hc pins s σ H _ I h) fun d s1 ⟨H1,I1,q1⟩=>?_)
 cases d with
 | true=>exact ha pins s1 σ H1 D I1 q1
 | false=>exact hb pins s1 σ H1 D I1 q1
noncomputable def Be:TS:=fun _ _ _=>False
end
noncomputable abbrev TG:=V→St→Hp→(St→Hp→Prop)→Prop
noncomputable abbrev V7:=List V→St→Hp→(St→Hp→Prop)→Prop
noncomputable def PG (X:Cx) (target:Expr) (t:TG):Prop:=
 ∀(pins:List (Addr × Obj)) (s:Shared) (σ:St) (H:Hp) (v:V) (u:Value) (Q:St→Hp→Prop),Inv X pins σ H s→RelV v u→t v σ H Q→
  wpAny (model X.prog X.w) X.A (assign target X.env u) (fun _ s'=>∃σ' H',Inv X pins σ' H' s'∧Q σ' H') X.xe s
noncomputable def YO (X:Cx) (ts:List Expr) (t:V7):Prop:=
 ∀(pins:List (Addr × Obj)) (s:Shared) (σ:St) (H:Hp) (vs:List V) (us:List Value) (Q:St→Hp→Prop),Inv X pins σ H s→Vals vs us→t vs σ H Q→
  wpAny (model X.prog X.w) X.A (assignInOrder ((assignEach ts X.env).map (·.2)) us) (fun _ s'=>∃σ' H',Inv X pins σ' H' s'∧Q σ' H') X.xe s
noncomputable abbrev K5:=V→V→V→Hp→(Hp→Prop)→Prop
noncomputable def Y6 (X:Cx) (t:K5):Prop:=
 ∀(pins:List (Addr × Obj)) (s:Shared) (σ:St) (H:Hp) (o i v:V) (ov iv u:Value) (Q:Hp→Prop),Inv X pins σ H s→RelV o ov→RelV i iv→RelV v u→t o i v H Q→
  wpAny (model X.prog X.w) X.A (setItem ov iv u) (fun _ s'=>∃H',Inv X pins σ H' s'∧Q H') X.xe s
noncomputable abbrev Hh:=V→V→Hp→VK→Prop
noncomputable def Fz (X:Cx) (op:Operator) (t:Hh):Prop:=
 ∀(pins:List (Addr × Obj)) (s:Shared) (σ:St) (H:Hp) (x y:V) (v u:Value) (Q:VK),Inv X pins σ H s→RelV x v→RelV y u→t x y H Q→
  wpAny (model X.prog X.w) X.A (inplaceOp op v u) (EP X pins σ Q) X.xe s
section
variable {X:Cx} {pos:Pos}
noncomputable def pS (i:Nat):TG:=fun v σ H Q=>Q (σ.set i (some v)) H
theorem jC {i:Nat} {x:Str} (hN:X.N.Nodup) (hi:X.N[i]?=some x) (hx:Loc X.env.scope x) (hf:X.fn x=true∨X.env.scope.names.lookup x=some .local:=by first | exact .inl rfl | exact .inr rfl | assumption):PG X (.Name x pos) (pS i):=by
 intro pins s σ H v u Q I r h
 exact wpAny_assign_Name (sg I hN hi hx r (fun s' I'=>⟨_,H,I',h⟩) hf)
noncomputable def Gg:V7:=fun vs σ H Q=>vs=[]∧Q σ H
noncomputable def Xv (t:TG) (u:V7):V7:=fun vs σ H Q=>∃v r,vs=v :: r∧t v σ H fun σ' H'=>u r σ' H' Q
theorem cu:YO X [] Gg:=by
 intro pins s σ H vs us Q I r h
 obtain⟨e,h⟩:=h
 subst e
 cases r
 exact assignInOrder_nil ⟨σ,H,I,h⟩
theorem kN {e:Expr} {es:List Expr} {t:TG} {u:V7} (h1:PG X e t) (h2:YO X es u)
  (hs:(assignEach (e :: es) X.env).map (·.2)=assign e X.env :: (assignEach es X.env).map (·.2):=by rfl):YO X (e :: es) (Xv t u):=by
 intro pins s σ H vs us Q I r h
 obtain⟨v,vr,e1,h⟩:=h
 subst e1
 cases r with
 | cons r rr=>
  rw[hs]
  refine assignInOrder_cons (xl (h1 pins s σ H _ _ _ I r h) fun _ s1 ⟨σ1,H1,I1,q1⟩=>?_)
  exact h2 pins s1 σ1 H1 _ _ Q I1 rr q1
noncomputable def WS (K:PySem.W.Frag) (n:Nat) (t:V7):TG:=fun v σ H Q=>∃a xs,v=.ref a∧yy K H a xs∧xs.length=n∧t xs σ H Q
theorem Yb {es:List Expr} {k:Nat} {t:V7} {n:Nat} (hc:X.calm=true) (h:YO X es t)
  (hn:(assignEach es X.env).length=n:=by rfl) (hst:(assignEach es X.env).findIdx? (·.1)=none:=by rfl):PG X (.Tuple es k pos) (WS X.K n t):=by
 intro pins s σ H v u Q I r hw
 obtain⟨a,xs,e1,hq,hl,hw⟩:=hw
 subst e1
 cases r
 obtain⟨its,rv,ht,hz⟩:=I.tuple hq
 refine assign_Tuple_tuple (I.ok.hd hc) ht (by simp [hn,←hl,rv.length]) hst fun h' hx=>?_
 have I1:Inv X pins σ H { s with heap:=h' }:=I.kept (t':=s.toks) fun b o e=>hx b o (Nat.ne_of_lt (Heap.lt_size e)) e
 exact h pins _ σ H xs _ Q I1 (by simpa using rv) hw
noncomputable def HB (to ti:TE) (t:K5):TG:=fun v σ H Q=>to σ H fun o H1=>ti σ H1 fun i H2=>t o i v H2 fun H3=>Q σ H3
theorem XN {o i:Expr} {to ti:TE} {t:K5} (ho:PE X o to) (hi:PE X i ti) (hs:Y6 X t)
  (ha:∀v,assign (.Subscript o i pos) X.env v=(do
   let ov ←holding [v] (eval o X.env)
   let iv ←holding [v,ov] (eval i X.env)
   standAt pos
   holding [v,ov,iv] (setItem ov iv v)
   release [v,ov,iv] []):=by intro _;rfl):PG X (.Subscript o i pos) (HB to ti t):=by
 intro pins s σ H v u Q I r h
 rw[ha]
 refine wpAny_bind (wpAny_holding (xl (ho pins s σ H _ I h) fun ov s1 ⟨x,H1,I1,r1,q1⟩=>?_))
 refine wpAny_bind (wpAny_holding (xl (hi pins s1 σ H1 _ I1 q1) fun iv s2 ⟨y,H2,I2,r2,q2⟩=>?_))
 refine wpAny_bind (wpAny_standAt (wpAny_bind (wpAny_holding (xl (hs pins s2 σ H2 x y v ov iv u _ I2 r1 r2 r q2) fun _ s3 ⟨H3,I3,q3⟩=>?_))))
 exact wpAny_release ⟨σ,H3,I3,q3⟩
noncomputable def YV (te:TE) (g:TG):TS:=fun D σ H=>te σ H fun x H1=>g x σ H1 D.nx
theorem Zy {tg e:Expr} {te:TE} {g:TG} (he:PE X e te) (hg:PG X tg g) (hs:swapsWithSole [tg] e pos.line X.env=pure false:=by rfl) (hw:swappedStores [tg] e X.env=pure none:=by rfl)
  (h1:(assignEach [tg] X.env).map (·.2)=[assign tg X.env]:=by rfl):PS X (.Assign [tg] e pos) (YV te g):=by
 intro pins s σ H D I h
 refine wpAny_Assign_stores (xl (he pins s σ H _ I h) fun v s1 ⟨x,H1,I1,r1,q1⟩=>?_) hs hw
 rw[h1]
 exact xl (hg pins s1 σ H1 x v _ I1 r1 q1) fun _ s2 q=>q
theorem qZ {i:Nat} {x:Str} {e:Expr} {te:TE} {pos':Pos} (hN:X.N.Nodup) (hi:X.N[i]?=some x) (hx:Loc X.env.scope x) (he:PE X e te) (hs:swapsWith e (some (.Name x pos')) pos.line X.env=pure false:=by rfl) (hf:X.fn x=true∨X.env.scope.names.lookup x=some .local:=by first | exact .inl rfl | exact .inr rfl | assumption) :
  PS X (.Assign [.Name x pos'] e pos) (YV te (pS i)):=by
 intro pins s σ H D I h
 refine wpAny_Assign_Name (xl (he pins s σ H _ I h) fun v s1 ⟨y,H1,I1,r1,q1⟩=>?_) hs
 exact sg I1 hN hi hx r1 (fun s2 I2=>⟨_,H1,I2,q1⟩) hf
noncomputable def PN (i j:Nat) (ta:TA):TS:=fun D σ H=>ta σ H fun vs H1=>∃v w,vs=[v,w]∧D.nx ((σ.set i (some v)).set j (some w)) H1
noncomputable def PH (i:Nat) (te:TE) (ti:Hh):TS:=fun D σ H=>∃x,σ[i]?=some (some x)∧te σ H fun y H1=>ti x y H1 fun z H2=>D.nx (σ.set i (some z)) H2
noncomputable def BI (to ti te:TE) (tget:V→V→Hp→VK→Prop) (tip:Hh) (tset:K5):TS:=fun D σ H=>to σ H fun o H1=>ti σ H1 fun i H2=>tget o i H2 fun x H3=>te σ H3 fun y H4=>tip x y H4 fun z H5=>tset o i z H5 fun H6=>D.nx σ H6
noncomputable def Pp (X:Cx) (t:V→V→Hp→VK→Prop):Prop:=
 ∀(pins:List (Addr × Obj)) (s:Shared) (σ:St) (H:Hp) (o i:V) (ov iv:Value) (Q:VK),Inv X pins σ H s→RelV o ov→RelV i iv→t o i H Q→
  wpAny (model X.prog X.w) X.A (getItem ov iv) (EP X pins σ Q) X.xe s
noncomputable def Fv (f:Int→Int→Int):Hh:=fun x y H Q=>∃i j,x=.int i∧y=.int j∧Q (.int (f i j)) H
end
section
variable {X:Cx} {pos:Pos}
noncomputable def BK (c:TT) (tb:TS):TS:=fun D σ H=>∃W:Nat→St→Hp→Prop,(∃m,W m σ H)∧∀m σ H,W m σ H→
 c σ H fun b H1=>if b=true then ∃N:St→Hp→Prop,(∀σ' H',N σ' H'→∃m',m' < m∧W m' σ' H')∧tb { D with nx:=N,ct:=N,bk:=D.nx } σ H1 else D.nx σ H1
end
structure It where
 go:Nat→Hp→Prop
 K1:Nat→Hp→V→Hp→Prop
 stop:Nat→Hp→Prop
noncomputable def gD (X:Cx) (pins:List (Addr × Obj)) (H:Hp) (b:Addr):Prop:=
 H b=none∧b≠X.env.locals∧b∉X.fs∧(b∈X.ex∨X.s₀.heap.objs.size≤b)∧(∀x c,X.env.cells.lookup x=some c→c≠b)∧∀p∈X.pn ++ pins,p.1≠b
theorem Inv.QR {X:Cx} {pins:List (Addr × Obj)} {σ:St} {H H':Hp} {s:Shared} {b:Addr} (I:Inv X pins σ H s) (hb:s.heap.objs.size≤b) (hn:H' b=none):gD X pins H' b:=by
 refine⟨hn,Nat.ne_of_gt (Nat.lt_of_lt_of_le I.lt hb),I.HA hb,.inr (Nat.le_trans I.sz hb),fun x c e z=>?_,fun p hp z=>?_⟩
 ·obtain⟨v,q⟩:=I.cell x c e
  exact absurd (Nat.lt_of_lt_of_le q.lt (by rw[z];exact hb)) (Nat.lt_irrefl _)
 ·exact absurd (Nat.lt_of_lt_of_le (Heap.lt_size (I.pin p hp).1) (by rw[z];exact hb)) (Nat.lt_irrefl _)
structure Turn (P:Program) (w:World) (K:PySem.W.Frag) (tg:Expr) (J:It) (fp:List Addr) (it:Addr) (tn:Nat→Heap→Prop):Prop where
 mem:it∈fp
 obj:∀i h,tn i h→∀b∈fp,∃o,h.get? b=some o∧∀v,o.data≠.cell v
 keep:∀i h h',tn i h→(∀b∈fp,∀o,h.get? b=some o→h'.get? b=some o)→tn i h'
 item:∀(X:Cx),X.prog=P→X.w=w→X.K=K→X.calm=true→∀(i:Nat) (pins:List (Addr × Obj)) (s:Shared) (σ:St) (H:Hp) (E:Value→Shared→Prop),Inv X pins σ H s→(∀b∈fp,gD X pins H b)→tn i s.heap→J.go i H→
  wpAny (model P w) X.A (pyNext (.ref it)) (fun r s1=>∃u,r=some u∧
   wpAny (model P w) X.A (letOwnedTupleGo tg (.ref it) u) (fun _ s2=>∃x H',Inv X pins σ H' s2∧RelV x u∧J.K1 i H x H'∧tn (i + 1) s2.heap∧∀b∈fp,H' b=none) E s1) E s
 done:∀(X:Cx),X.prog=P→X.w=w→X.K=K→X.calm=true→∀(i:Nat) (pins:List (Addr × Obj)) (s:Shared) (σ:St) (H:Hp) (E:Value→Shared→Prop),Inv X pins σ H s→(∀b∈fp,gD X pins H b)→tn i s.heap→J.stop i H→
  wpAny (model P w) X.A (pyNext (.ref it)) (fun r s1=>r=none∧Inv X pins σ H s1) E s
 self:∀(A:Around) (i:Nat) (s:Shared) (Q:Value→Shared→Prop) (E:Value→Shared→Prop),tn i s.heap→Q (.ref it) s→wpAny (model P w) A (pyIter (.ref it)) Q E s
noncomputable abbrev TI:=St→Hp→(It→Hp→Prop)→Prop
noncomputable def BB (X:Cx) (pins:List (Addr × Obj)) (σ:St) (tg:Expr) (R:It→Hp→Prop) (itv:Value) (s2:Shared):Prop:=
 ∃(it:Addr) (fp:List Addr) (tn:Nat→Heap→Prop) (J:It) (H':Hp),itv=.ref it∧Inv X pins σ H' s2∧Turn X.prog X.w X.K tg J fp it tn∧tn 0 s2.heap∧(∀b∈fp,gD X pins H' b)∧R J H'
noncomputable def PI (X:Cx) (tg iter:Expr) (wi:TI):Prop:=
 ∀(pins:List (Addr × Obj)) (s:Shared) (σ:St) (H:Hp) (R:It→Hp→Prop),Inv X pins σ H s→wi σ H R→
  wpAny (model X.prog X.w) X.A (eval iter X.env) (fun v s1=>wpAny (model X.prog X.w) X.A (pyIter v) (BB X pins σ tg R) X.xe s1) X.xe s
theorem Xg {M:Model} {A:Around} {E:Value→Shared→Prop} {s:Shared} {tg:Expr} {it:Addr} {u:Value} {o:Obj} {n:String} {vs:Array Value} {Q:Unit→Shared→Prop} (ho:s.heap.get? it=some o) (hc:o.cls=.type n) (hd:o.data=.fields vs)
  (hn:["enumerate","zip","dict_itemiterator","dict_reverseitemiterator","odict_iterator","itertools.zip_longest","itertools.pairwise"].contains n=false) (hQ:Q () s):wpAny M A (letOwnedTupleGo tg (.ref it) u) Q E s:=by
 unfold letOwnedTupleGo
 cases tg<;>first
  | exact wpAny_pure hQ
  | (cases u<;>first
    | exact wpAny_pure hQ
    | (refine wpAny_bind (wpAny_load ho ?_);rw[hc,hd];show wpAny M A (if (["enumerate","zip","dict_itemiterator","dict_reverseitemiterator","odict_iterator","itertools.zip_longest","itertools.pairwise"].contains n && vs[0]? == some (rawInt _))=true then _ else _) Q E s;rw[if_neg (by intro h;rw[hn,Bool.false_and] at h;cases h)];exact wpAny_pure hQ))
noncomputable def K3 (K:PySem.W.Frag) (a:Addr):It:=
 ⟨fun i H=>∃xs x,qD K H a xs∧xs[i]?=some x,fun i H x H'=>H'=H∧∀xs,qD K H a xs→xs[i]?=some x,fun i H=>∃xs,qD K H a xs∧xs.length≤i⟩
noncomputable def Py (K:PySem.W.Frag) (a:Addr):It:=
 ⟨fun i H=>∃xs x,yy K H a xs∧xs[i]?=some x,fun i H x H'=>H'=H∧∀xs,yy K H a xs→xs[i]?=some x,fun i H=>∃xs,yy K H a xs∧xs.length≤i⟩
noncomputable def V6 (lo:Int) (n:Nat):It:=⟨fun i _=>i < n,fun i H x H'=>H'=H∧x=.int (lo + i),fun i _=>n≤i⟩
theorem JQ {P:Program} {w:World} {K:PySem.W.Frag} {tg:Expr} (a it:Addr):Turn P w K tg (K3 K a) [it] it (fun i h=>h.IsListIter it a i) where
 mem:=by simp
 obj:=fun i h st b hb=>by
  have e:b=it:=by simpa using hb
  subst e
  obtain⟨o,e,c,d⟩:=st
  exact⟨o,e,fun v z=>by rw[d] at z;cases z⟩
 keep:=fun i h h' st k=>st.at fun o e=>k it (by simp) o e
 item:=by
  intro X hP hw hK hc i pins s σ H E I hf st hg
  subst hP hw hK
  obtain⟨xs,x,hq,hx⟩:=hg
  obtain⟨its,rv,p,hz⟩:=I.list hq
  obtain⟨u,hu,ru⟩:=rv.get hx
  obtain⟨f0,f1,f2,f3,f4,f5⟩:=hf it (by simp)
  refine wpAny_pyNext_list_item st p.isList (x:=u) (by simpa using hu) fun h' st' sb=>?_
  have I1:Inv X pins σ H { s with heap:=h' }:=I.turned (t':=s.toks) (fun b o hb e=>(sb.2 b hb).trans e) f0 f1 f3 f4 f5
  obtain⟨o,e,c,d⟩:=id st'
  exact⟨u,rfl,Xg (s:={ s with heap:=h' }) e c d (by decide) ⟨x,H,I1,ru,⟨rfl,fun ys hy=>by rw[I.lz hy hq];exact hx⟩,st',fun b hb=>(hf b hb).1⟩⟩
 done:=by
  intro X hP hw hK hc i pins s σ H E I hf st hg
  subst hP hw hK
  obtain⟨xs,hq,hx⟩:=hg
  obtain⟨its,rv,p,hz⟩:=I.list hq
  obtain⟨f0,f1,f2,f3,f4,f5⟩:=hf it (by simp)
  have hl:=rv.length
  exact wpAny_pyNext_list_end (I.ok.hd hc) st p.isList (by simp;omega) fun h' eb=>⟨rfl,I.turned (t':=s.toks) (fun b o hb e=>eb b o hb e) f0 f1 f3 f4 f5⟩
 self:=fun _ _ _ _ _ st h=>wpAny_pyIter_listiter st h
theorem Za {P:Program} {w:World} {K:PySem.W.Frag} {tg:Expr} (it:Addr) (lo:Int) (n:Nat):Turn P w K tg (V6 lo n) [it] it (fun i h=>IsRangeIter h it (lo + (i:Nat) * 1) ((n:Int) - (i:Nat)) 1) where
 mem:=by simp
 obj:=fun i h st b hb=>by
  have e:b=it:=by simpa using hb
  subst e
  exact⟨_,st,fun v z=>by
   have z':Data.fields _=Data.cell v:=z
   cases z'⟩
 keep:=fun i h h' st k=>k it (by simp) _ st
 item:=by
  intro X hP hw hK hc i pins s σ H E I hf st hg
  subst hP hw hK
  obtain⟨f0,f1,f2,f3,f4,f5⟩:=hf it (by simp)
  have W:=Walks.range (prog:=X.prog) (w:=X.w) (I.ok.hd hc) it lo 1 n
  refine W.item i s _ _ hg st fun v h' tk hv st' kk=>?_
  obtain⟨t,rfl⟩:=hv
  have I1:Inv X pins σ H { s with heap:=h',toks:=tk }:=I.turned (fun b o hb e=>kk b o (by simpa using hb) e) f0 f1 f3 f4 f5
  refine⟨_,rfl,Xg (s:={ s with heap:=h',toks:=tk }) (n:="range_iterator") st' rfl rfl (by decide) ⟨.int (lo + i),H,I1,⟨t,?_⟩,⟨rfl,rfl⟩,st',fun b hb=>(hf b hb).1⟩⟩
  rw[Int.mul_one]
 done:=by
  intro X hP hw hK hc i pins s σ H E I hf st hg
  subst hP hw hK
  obtain⟨f0,f1,f2,f3,f4,f5⟩:=hf it (by simp)
  exact wpAny_pyNext_range_end (I.ok.hd hc) st (by have:n≤i:=hg;omega) fun h' eb=>⟨rfl,I.turned (t':=s.toks) (fun b o hb e=>eb b o hb e) f0 f1 f3 f4 f5⟩
 self:=fun _ _ _ _ _ st h=>wpAny_pyIter_rangeiter st h
end L2
namespace L2
open PySem PySem.Spec PyProof.Rows
section
variable {X:Cx} {tg:Expr}
noncomputable def Wb (K:PySem.W.Frag) (tl:TE):TI:=fun σ H R=>tl σ H fun x H1=>∃a,x=.ref a∧(∃xs,qD K H1 a xs)∧R (K3 K a) H1
noncomputable def Pt (K:PySem.W.Frag) (tl:TE):TI:=fun σ H R=>tl σ H fun x H1=>∃a,x=.ref a∧(∃xs,yy K H1 a xs)∧R (Py K a) H1
theorem VH {l:Expr} {tl:TE} (hl:PE X l tl):PI X tg l (Wb X.K tl):=by
 intro pins s σ H R I h
 refine xl (hl pins s σ H _ I h) fun v s1 ⟨x,H1,I1,r1,q1⟩=>?_
 obtain⟨a,e,⟨xs,hq⟩,q⟩:=q1
 subst e
 cases r1
 obtain⟨its,rv,p,hz⟩:=I1.list hq
 refine wpAny_pyIter_list p.isList ?_
 refine⟨s1.heap.objs.size,[s1.heap.objs.size],_,_,H1,rfl,I1.kept (t':=s1.toks) fun b o e=>Heap.get?_push_of_some _ e,JQ a _,⟨_,Heap.get?_push_size _ rfl,rfl,rfl⟩,fun b hb=>?_,q⟩
 have e:b=s1.heap.objs.size:=by simpa using hb
 subst e
 exact I1.QR (Nat.le_refl _) (I1.jc.fresh (Nat.le_refl _))
theorem eJ {pins:List (Addr × Obj)} {σ:St} {H:Hp} {s:Shared} {R:It→Hp→Prop} {E:Value→Shared→Prop} {lo hi:Int} {t u v:Tok} {tk:Nat} (I:Inv X pins σ H s) (h1:-(2 ^ 62)≤lo) (h2:lo < 2 ^ 62) (h3:-(2 ^ 62)≤hi) (h4:hi < 2 ^ 62)
  (q:R (V6 lo (hi - lo).toNat) H):wpAny (model X.prog X.w) X.A (pyIter (.ref s.heap.objs.size)) (BB X pins σ tg R) E { s with heap:=s.heap.push { cls:=.type "range",data:=.fields #[.int lo t,.int hi u,.int 1 v] },toks:=tk }:=by
 refine wpAny_pyIter_range (IsRange.new ..) (small_one h1 h2 h3 h4) ?_
 have I1:Inv X pins σ H { s with heap:=s.heap.push { cls:=.type "range",data:=.fields #[.int lo t,.int hi u,.int 1 v] },toks:=tk }:=I.kept fun b o e=>Heap.get?_push_of_some _ e
 refine⟨(s.heap.push { cls:=.type "range",data:=.fields #[.int lo t,.int hi u,.int 1 v] }).objs.size,[(s.heap.push { cls:=.type "range",data:=.fields #[.int lo t,.int hi u,.int 1 v] }).objs.size],_,_,H,rfl,
  I1.kept (t':=tk) fun b o e=>Heap.get?_push_of_some _ e,Za _ lo (hi - lo).toNat,?_,fun b hb=>?_,q⟩
 ·have e1:lo + ((0:Nat):Int) * 1=lo:=by simp
  have e2:(((hi - lo).toNat:Nat):Int) - ((0:Nat):Int)=Builtin.Range.rangeSize lo hi 1:=by rw[rangeSize_one];split<;>omega
  show IsRangeIter _ _ (lo + ((0:Nat):Int) * 1) ((((hi - lo).toNat:Nat):Int) - ((0:Nat):Int)) 1
  rw[e1,e2]
  exact Heap.get?_push_size _ rfl
 ·have e:b=(s.heap.push { cls:=.type "range",data:=.fields #[.int lo t,.int hi u,.int 1 v] }).objs.size:=by simpa using hb
  subst e
  exact I1.QR (Nat.le_refl _) (I1.jc.fresh (Nat.le_refl _))
noncomputable def Gh (ta:TA):TI:=fun σ H R=>ta σ H fun vs H1=>∃j:Int,vs=[.int j]∧-(2 ^ 62)≤j∧j < 2 ^ 62∧R (V6 0 j.toNat) H1
noncomputable def Gb (ta:TA):TI:=fun σ H R=>ta σ H fun vs H1=>∃i j:Int,vs=[.int i,.int j]∧(-(2 ^ 62)≤i∧i < 2 ^ 62∧-(2 ^ 62)≤j∧j < 2 ^ 62)∧R (V6 i (j - i).toNat) H1
theorem yS {a:Expr} {ta:TA} {p pos:Pos} (hg:Gl X "range") (hm:X.mg "range" = none) (ha:PA X [a] ta) (hs:starEach [a] X.env=[(false,eval a X.env)]:=by rfl):PI X tg (.Call (.Name "range" p) [a] [] pos) (Gh ta):=by
 intro pins s σ H R I h
 refine Call_ (cO I hg hm boot_range (PyProof.Rows.callWith_type1 (xl (ha pos pins s σ H _ I h) fun us s1 ⟨vs,H1,I1,r1,q1⟩=>?_) hs rfl))
 obtain⟨j,e,q1,q2,q⟩:=q1
 subst e
 cases r1 with
 | cons r rr=>
  cases rr
  obtain⟨t,rfl⟩:=r
  exact call_range_1 (eJ I1 (by omega) (by omega) q1 q2 (by simpa using q))
theorem Jw {a b:Expr} {ta:TA} {p pos:Pos} (hg:Gl X "range") (hm:X.mg "range" = none) (ha:PA X [a,b] ta) (hs:starEach [a,b] X.env=[(false,eval a X.env),(false,eval b X.env)]:=by rfl) (hs2:starEach [b] X.env=[(false,eval b X.env)]:=by rfl) :
  PI X tg (.Call (.Name "range" p) [a,b] [] pos) (Gb ta):=by
 intro pins s σ H R I h
 refine Call_ (cO I hg hm boot_range (PyProof.Rows.callWith_type1 (xl (ha pos pins s σ H _ I h) fun us s1 ⟨vs,H1,I1,r1,q1⟩=>?_) (by rw[hs,hs2]) (by rw[hs2];rfl)))
 obtain⟨i,j,e,⟨q1,q2,q3,q4⟩,q⟩:=q1
 subst e
 cases r1 with
 | cons r rr=>
  cases rr with
  | cons r' rr=>
   cases rr
   obtain⟨t,rfl⟩:=r
   obtain⟨t',rfl⟩:=r'
   exact call_range_2 (eJ I1 q1 q2 q3 q4 q)
noncomputable def Bt (wi:TI) (g:TG) (tb:TS):TS:=fun D σ H=>wi σ H fun J H1=>∃W:Nat→Nat→St→Hp→Prop,(∃m,W 0 m σ H1)∧∀i m σ H,W i m σ H→
 (J.stop i H∧D.nx σ H)∨(J.go i H∧∃N:St→Hp→Prop,(∀σ' H',N σ' H'→∃m',m' < m∧W (i + 1) m' σ' H')∧∀x H',J.K1 i H x H'→g x σ H' fun σ2 H2=>tb { D with nx:=N,ct:=N,bk:=D.nx } σ2 H2)
noncomputable def lM (fp:List Addr) (h:Heap):List (Addr × Obj):=fp.filterMap fun b=>(h.get? b).map fun o=>(b,o)
theorem wF {fp:List Addr} {h:Heap} {b:Addr} {o:Obj} (hb:b∈fp) (e:h.get? b=some o):(b,o)∈lM fp h:=List.mem_filterMap.mpr ⟨b,hb,by rw[e];rfl⟩
theorem Q9 {fp:List Addr} {h:Heap} {p:Addr × Obj} (hp:p∈lM fp h):p.1∈fp∧h.get? p.1=some p.2:=by
 obtain⟨b,hb,e⟩:=List.mem_filterMap.mp hp
 cases q:h.get? b with
 | none=>rw[q] at e;cases e
 | some o=>
  rw[q] at e
  have e':(b,o)=p:=Option.some.inj e
  subst e'
  exact⟨hb,q⟩
theorem Inv.pinned {pins:List (Addr × Obj)} {σ:St} {H:Hp} {s:Shared} {fp:List Addr} (I:Inv X pins σ H s) (hf:∀b∈fp,gD X pins H b) (ho:∀b∈fp,∃o,s.heap.get? b=some o∧∀v,o.data≠.cell v):Inv X (pins ++ lM fp s.heap) σ H s:=
 I.oV fun p hp=>(List.mem_append.mp hp).elim (fun z=>I.pin p (List.mem_append_right _ z)) fun z=>by
  obtain⟨hb,e⟩:=Q9 z
  obtain⟨f0,f1,f2,_⟩:=hf p.1 hb
  obtain⟨o,e',d⟩:=ho p.1 hb
  rw[e] at e';cases e'
  exact⟨e,f0,f1,f2,d⟩
theorem Inv.gf {pins pl:List (Addr × Obj)} {σ:St} {H:Hp} {s:Shared} (I:Inv X (pins ++ pl) σ H s):Inv X pins σ H s:=I.oV fun p hp=>I.pin p (List.mem_append_right _ (List.mem_append_left _ hp))
theorem yJ {iter:Expr} {body:List Stmt} {wi:TI} {g:TG} {tb:TS} {pos:Pos} (hp:PassesOwn (model X.prog X.w) X.A X.env X.xe) (hc:X.calm=true) (hi:PI X tg iter wi) (hg:PG X tg g) (hb:ZV X body tb)
  (hs:∀x,foldedSetIterable iter X.env x=pure x:=by intro _;rfl):PS X (.For tg iter body [] pos) (Bt wi g tb):=by
 intro pins s σ H D I h
 refine wpAny_For (xl (hi pins s σ H _ I h) fun v s1 h1=>xl h1 fun itv s2 h2=>?_) hs
 obtain⟨it,fp,tn,J,H2,e,I2,T,st2,f2,W,⟨m0,w0⟩,turn⟩:=h2
 subst e
 have stat:∀{H':Hp},(∀b∈fp,H' b=none)→∀b∈fp,gD X pins H' b:=fun hn b hb=>⟨hn b hb,(f2 b hb).2⟩
 refine codeAny_forLoop_any (fun n s'=>∃i σ' H',Inv X pins σ' H' s'∧tn i s'.heap∧(∀b∈fp,H' b=none)∧W i n σ' H') ?_ m0 ⟨0,σ,H2,I2,st2,fun b hb=>(f2 b hb).1,w0⟩
 rintro n s3 ⟨i,σ3,H3,I3,st3,fr3,w3⟩
 rcases turn i n σ3 H3 w3 with ⟨stop,qn⟩ | ⟨go,N,hN,step⟩
 ·refine wpAny_passesOwn hp (xl (T.done X rfl rfl rfl hc i pins s3 σ3 H3 X.xe I3 (stat fr3) st3 stop) fun r s4 ⟨hr,I4⟩=>?_)
  subst hr
  exact wpAny_execs_nil ⟨σ3,H3,I4,qn⟩
 ·refine wpAny_passesOwn hp (xl (T.item X rfl rfl rfl hc i pins s3 σ3 H3 X.xe I3 (stat fr3) st3 go) fun r s4 ⟨u,hr,h4⟩=>?_)
  subst hr
  refine wpAny_passesOwn hp (xl h4 fun _ s5 ⟨x,H5,I5,r5,y5,st5,fr5⟩=>?_)
  have I5':=I5.pinned (stat fr5) (T.obj _ _ st5)
  refine wpAny_passesOwn hp (xl (hg _ s5 σ3 H5 x u _ I5' r5 (step x H5 y5)) fun _ s6 ⟨σ6,H6,I6,q6⟩=>?_)
  refine wpAny_passesOwn hp (xl (hb _ s6 σ6 H6 _ I6 q6) fun f s7 q7=>?_)
  have again:∀{σ7:St} {H7:Hp},Inv X (pins ++ lM fp s5.heap) σ7 H7 s7→N σ7 H7→∃m,m < n∧∃i σ' H',Inv X pins σ' H' s7∧tn i s7.heap∧(∀b∈fp,H' b=none)∧W i m σ' H':=fun {σ7 H7} I7 n7=>by
   obtain⟨m',hm,w7⟩:=hN σ7 H7 n7
   refine⟨m',hm,i + 1,σ7,H7,I7.gf,T.keep _ _ _ st5 fun b hb o e=>(I7.pin (b,o) (List.mem_append_right _ (List.mem_append_right _ (wF hb e)))).1,fun b hb=>?_,w7⟩
   obtain⟨o,e,d⟩:=T.obj _ _ st5 b hb
   exact(I7.pin (b,o) (List.mem_append_right _ (List.mem_append_right _ (wF hb e)))).2.1
  cases f with
  | next=>obtain⟨σ7,H7,I7,n7⟩:=q7;exact again I7 n7
  | cont=>obtain⟨σ7,H7,I7,n7⟩:=q7;exact again I7 n7
  | brk=>obtain⟨σ7,H7,I7,q7⟩:=q7;exact⟨σ7,H7,I7.gf,q7⟩
  | ret v=>obtain⟨x7,σ7,H7,I7,r7,q7⟩:=q7;exact⟨x7,σ7,H7,I7.gf,r7,q7⟩
end
theorem pL {K:PySem.W.Frag} {a:Addr} {xs:List V} {g:TG} {tb:TS} {D:Ends} {σ:St} {H:Hp} (Pv:Nat→St→Hp→Prop) (h0:Pv 0 σ H) (hl:∀i σ H,i≤xs.length→Pv i σ H→qD K H a xs)
  (hs:∀i x σ H,xs[i]?=some x→Pv i σ H→g x σ H fun σ2 H2=>tb { D with nx:=Pv (i + 1),ct:=Pv (i + 1),bk:=D.nx } σ2 H2) (hd:∀σ H,Pv xs.length σ H→D.nx σ H) :
  ∃W:Nat→Nat→St→Hp→Prop,(∃m,W 0 m σ H)∧∀i m σ H,W i m σ H→
   ((K3 K a).stop i H∧D.nx σ H)∨((K3 K a).go i H∧∃N:St→Hp→Prop,(∀σ' H',N σ' H'→∃m',m' < m∧W (i + 1) m' σ' H')∧∀x H',(K3 K a).K1 i H x H'→g x σ H' fun σ2 H2=>tb { D with nx:=N,ct:=N,bk:=D.nx } σ2 H2):=by
 refine⟨fun i m σ H=>m=xs.length - i∧i≤xs.length∧Pv i σ H,⟨xs.length,by simp,Nat.zero_le _,h0⟩,?_⟩
 rintro i m σ H ⟨rfl,hi,p⟩
 have q:=hl i σ H hi p
 by_cases hlt:i < xs.length
 ·refine .inr ⟨⟨xs,xs[i],q,by simp [hlt]⟩,Pv (i + 1),fun σ' H' p'=>⟨xs.length - (i + 1),by omega,rfl,hlt,p'⟩,fun x H' y=>?_⟩
  obtain⟨e,y⟩:=y
  subst e
  exact hs i x σ _ (y xs q) p
 ·have e:i=xs.length:=by omega
  subst e
  exact .inl ⟨⟨xs,q,Nat.le_refl _⟩,hd σ H p⟩
theorem fN {lo:Int} {n:Nat} {g:TG} {tb:TS} {D:Ends} {σ:St} {H:Hp} (Pv:Nat→St→Hp→Prop) (h0:Pv 0 σ H)
  (hs:∀i σ H,i < n→Pv i σ H→g (.int (lo + i)) σ H fun σ2 H2=>tb { D with nx:=Pv (i + 1),ct:=Pv (i + 1),bk:=D.nx } σ2 H2) (hd:∀σ H,Pv n σ H→D.nx σ H) :
  ∃W:Nat→Nat→St→Hp→Prop,(∃m,W 0 m σ H)∧∀i m σ H,W i m σ H→
   ((V6 lo n).stop i H∧D.nx σ H)∨((V6 lo n).go i H∧∃N:St→Hp→Prop,(∀σ' H',N σ' H'→∃m',m' < m∧W (i + 1) m' σ' H')∧∀x H',(V6 lo n).K1 i H x H'→g x σ H' fun σ2 H2=>tb { D with nx:=N,ct:=N,bk:=D.nx } σ2 H2):=by
 refine⟨fun i m σ H=>m=n - i∧i≤n∧Pv i σ H,⟨n,by simp,Nat.zero_le _,h0⟩,?_⟩
 rintro i m σ H ⟨rfl,hi,p⟩
 by_cases hlt:i < n
 ·refine .inr ⟨hlt,Pv (i + 1),fun σ' H' p'=>⟨n - (i + 1),by omega,rfl,hlt,p'⟩,fun x H' y=>?_⟩
  obtain⟨e,y⟩:=y
  subst e y
  exact hs i σ _ hlt p
 ·have e:i=n:=by omega
  subst e
  exact .inl ⟨Nat.le_refl _,hd σ H p⟩
end L2
namespace L2
open PySem PySem.Spec PyProof.Rows
noncomputable abbrev R2:=V→V→Hp→VK→Prop
noncomputable def pB (X:Cx) (f:Value→Value→Sem Value) (r:R2):Prop:=
 ∀(pins:List (Addr × Obj)) (s:Shared) (σ:St) (H:Hp) (x y:V) (v u:Value) (Q:VK),Inv X pins σ H s→RelV x v→RelV y u→r x y H Q→
  wpAny (model X.prog X.w) X.A (f v u) (EP X pins σ Q) X.xe s
noncomputable def HJ (X:Cx) (f:Value→Sem Value) (r:V→Hp→VK→Prop):Prop:=
 ∀(pins:List (Addr × Obj)) (s:Shared) (σ:St) (H:Hp) (x:V) (v:Value) (Q:VK),Inv X pins σ H s→RelV x v→r x H Q→
  wpAny (model X.prog X.w) X.A (f v) (EP X pins σ Q) X.xe s
noncomputable def vC (X:Cx) (f:Value) (r:List V→Hp→VK→Prop):Prop:=
 ∀(pins:List (Addr × Obj)) (s:Shared) (σ:St) (H:Hp) (xs:List V) (us:List Value) (Q:VK),Inv X pins σ H s→Vals xs us→r xs H Q→
  wpAny (model X.prog X.w) X.A (call f us) (EP X pins σ Q) X.xe s
noncomputable def Pm (X:Cx) (r:V→Hp→(Bool→Hp→Prop)→Prop):Prop:=
 ∀(pins:List (Addr × Obj)) (s:Shared) (σ:St) (H:Hp) (x:V) (v:Value) (Q:Bool→Hp→Prop),Inv X pins σ H s→RelV x v→r x H Q→
  wpAny (model X.prog X.w) X.A (truthy v) (TP X pins σ Q) X.xe s
noncomputable def Ht (r:R2) (ta tb:TE):TE:=fun σ H Q=>ta σ H fun x H1=>tb σ H1 fun y H2=>r x y H2 Q
noncomputable def P2 (r:V→Hp→VK→Prop) (ta:TE):TE:=fun σ H Q=>ta σ H fun x H1=>r x H1 Q
noncomputable def rI (C:Int→Int→Prop) (g:Int→Int→V):R2:=fun x y H Q=>∃i j,x=.int i∧y=.int j∧C i j∧Q (g i j) H
noncomputable def Yc (g:Int→Int→V):R2:=fun x y H Q=>∃i j,x=.int i∧y=.int j∧Q (g i j) H
noncomputable def rU (g:Int→V):V→Hp→VK→Prop:=fun x H Q=>∃i,x=.int i∧Q (g i) H
section
variable {X:Cx} {a b c:Expr} {ta tb tc:TE} {pos:Pos}
theorem WW (ha:PE X a ta) (hb:PE X b tb) {pins:List (Addr × Obj)} {s:Shared} {σ:St} {H:Hp} {R:V→V→Hp→Prop} (I:Inv X pins σ H s)
  (h:ta σ H fun x H1=>tb σ H1 fun y H2=>R x y H2) {Q:Value→Shared→Prop} {f:Value→Value→Sem Value}
  (hf:∀v u s2 x y H2,Inv X pins σ H2 s2→RelV x v→RelV y u→R x y H2→wpAny (model X.prog X.w) X.A (f v u) Q X.xe s2) :
  wpAny (model X.prog X.w) X.A (eval a X.env) (fun v s₁=>wpAny (model X.prog X.w) X.A (eval b X.env) (fun u s₂=>wpAny (model X.prog X.w) X.A (f v u) Q X.xe s₂) X.xe s₁) X.xe s:=by
 refine xl (ha pins s σ H _ I h) fun v s1 ⟨x,H1,I1,r1,q1⟩=>?_
 refine xl (hb pins s1 σ H1 _ I1 q1) fun u s2 ⟨y,H2,I2,r2,q2⟩=>?_
 exact hf v u s2 x y H2 I2 r1 r2 q2
theorem qg {op:Operator} {r:R2} (ho:pB X (binaryOp op) r) (ha:PE X a ta) (hb:PE X b tb):PE X (.BinOp a op b pos) (Ht r ta tb):=by
 intro pins s σ H Q I h
 exact wpAny_BinOp (WW ha hb I h fun v u s2 x y H2 I2 rx ry q=>ho pins s2 σ H2 x y v u Q I2 rx ry q)
theorem Qv {op:UnaryOp} {r:V→Hp→VK→Prop} (ho:HJ X (unaryOp op) r) (ha:PE X a ta):PE X (.UnaryOp op a pos) (P2 r ta):=by
 intro pins s σ H Q I h
 exact UnaryOp_ (xl (ha pins s σ H _ I h) fun v s1 ⟨x,H1,I1,r1,q1⟩=>ho pins s1 σ H1 x v Q I1 r1 q1)
theorem Hm {f:Value→Value→Sem Value} {C:Int→Int→Prop} {g:Int→Int→Int}
  (rule:∀(i j:Int) (t u:Tok) (s:Shared) (Q:Value→Shared→Prop) (E:Value→Shared→Prop),C i j→Q (.int (g i j) s.toks) { s with toks:=s.toks + 1 }→wpAny (model X.prog X.w) X.A (f (.int i t) (.int j u)) Q E s) :
  pB X f (rI C fun i j=>.int (g i j)):=by
 intro pins s σ H x y v u Q I rx ry h
 obtain⟨i,j,rfl,rfl,hc,q⟩:=h
 obtain⟨t,rfl⟩:=rx
 obtain⟨t',rfl⟩:=ry
 exact rule i j t t' s _ _ hc ⟨.int (g i j),H,I.tok _,⟨_,rfl⟩,q⟩
theorem GQ {f:Value→Value→Sem Value} {g:Int→Int→Int}
  (rule:∀(i j:Int) (t u:Tok) (s:Shared) (Q:Value→Shared→Prop) (E:Value→Shared→Prop),Q (.int (g i j) s.toks) { s with toks:=s.toks + 1 }→wpAny (model X.prog X.w) X.A (f (.int i t) (.int j u)) Q E s) :
  pB X f (Yc fun i j=>.int (g i j)):=by
 intro pins s σ H x y v u Q I rx ry h
 obtain⟨i,j,rfl,rfl,q⟩:=h
 obtain⟨t,rfl⟩:=rx
 obtain⟨t',rfl⟩:=ry
 exact rule i j t t' s _ _ ⟨.int (g i j),H,I.tok _,⟨_,rfl⟩,q⟩
theorem Yq {f:Value→Value→Sem Value} {g:Int→Int→Bool}
  (rule:∀(i j:Int) (t u:Tok) (s:Shared) (Q:Value→Shared→Prop) (E:Value→Shared→Prop),Q (.bool (g i j)) s→wpAny (model X.prog X.w) X.A (f (.int i t) (.int j u)) Q E s) :
  pB X f (Yc fun i j=>.bl (g i j)):=by
 intro pins s σ H x y v u Q I rx ry h
 obtain⟨i,j,rfl,rfl,q⟩:=h
 obtain⟨t,rfl⟩:=rx
 obtain⟨t',rfl⟩:=ry
 exact rule i j t t' s _ _ ⟨.bl (g i j),H,I,rfl,q⟩
noncomputable def Ho (i j:Int):Prop:=0 < j∧j < 1073741824
noncomputable def BY (i j:Int):Prop:=j≠0∧j.natAbs < 1073741824
noncomputable def Hi (i j:Int):Prop:=0≤j∧j≤1000000∧i.natAbs < 2 ^ 64
noncomputable def WX (i j:Int):Prop:=(-(2 ^ 64) < i∧i < 2 ^ 64)∨(-(2 ^ 64) < j∧j < 2 ^ 64)
theorem WX.ok {i j:Int} (h:WX i j):IntMulOk i j:=by
 rcases h with ⟨h1,h2⟩ | ⟨h1,h2⟩
 ·exact .of_left (intBits_le_64 h1 h2)
 ·exact .of_right (intBits_le_64 h1 h2)
theorem ka:pB X (binaryOp .Add) (Yc fun i j=>.int (i + j)):=GQ fun _ _ _ _ _ _ _ q=>add_int q
theorem c8:pB X (binaryOp .Sub) (Yc fun i j=>.int (i - j)):=GQ fun _ _ _ _ _ _ _ q=>sub_int q
theorem lB:pB X (binaryOp .Mult) (rI WX fun i j=>.int (i * j)):=Hm fun _ _ _ _ _ _ _ hc q=>mul_int q hc.ok
theorem wc:pB X (binaryOp .FloorDiv) (rI Ho fun i j=>.int (i / j)):=Hm fun i j _ _ _ _ _ hc q=>by
 have h1:(0:Int) < j:=hc.1
 have h2:j < 1073741824:=hc.2
 exact floordiv_int (by omega) (by rw[Int.fdiv_eq_ediv_of_nonneg i (by omega)];exact q) (.inl (PyProof.noPylong_small (by omega)))
theorem jw:pB X (binaryOp .Mod) (rI (fun _ j=>0 < j) fun i j=>.int (i % j)):=Hm fun i j _ _ _ _ _ hc q=>by
 have h1:(0:Int) < j:=hc
 exact mod_int' (by omega) (by rw[Int.fmod_eq_emod_of_nonneg i (by omega)];exact q)
theorem Yv:pB X (binaryOp .Pow) (rI Hi fun i j=>.int (i ^ j.toNat)):=Hm fun _ _ _ _ _ _ _ hc q=>pow_int_small hc.1 hc.2.1 hc.2.2 q
theorem P5 {f:Value→Sem Value} {g:Int→Int}
  (rule:∀(i:Int) (t:Tok) (s:Shared) (Q:Value→Shared→Prop) (E:Value→Shared→Prop),Q (.int (g i) s.toks) { s with toks:=s.toks + 1 }→wpAny (model X.prog X.w) X.A (f (.int i t)) Q E s) :
  HJ X f (rU fun i=>.int (g i)):=by
 intro pins s σ H x v Q I rx h
 obtain⟨i,rfl,q⟩:=h
 obtain⟨t,rfl⟩:=rx
 exact rule i t s _ _ ⟨.int (g i),H,I.tok _,⟨_,rfl⟩,q⟩
theorem ig:HJ X (unaryOp .USub) (rU fun i=>.int (-i)):=P5 fun _ _ _ _ _ q=>neg_int q
end
noncomputable def GF:V→V→Bool
 | .non,.non=>true | .non,.int _=>true | .int _,.non=>true | .non,.bl _=>true | .bl _,.non=>true | .non,.str _=>true | .str _,.non=>true
 | .int _,.int _=>true | .bl _,.bl _=>true | .str _,.str _=>true | .byt _,.byt _=>true
 | .int _,.str _=>true | .str _,.int _=>true | .bl _,.str _=>true | .str _,.bl _=>true
 | _,_=>false
noncomputable def Po:R2:=fun x y H Q=>GF x y=true∧Q (.bl (decide (x=y))) H
noncomputable def Pa:R2:=fun x y H Q=>GF x y=true∧Q (.bl (!decide (x=y))) H
theorem ZU {i j:Int}:decide (V.int i=V.int j)=(i == j):=by
 rw[Bool.eq_iff_iff]
 simp
theorem J2 {i j:Bool}:decide (V.bl i=V.bl j)=(i == j):=by
 rw[Bool.eq_iff_iff]
 simp
theorem ZR {i j:Str}:decide (V.str i=V.str j)=(i == j):=by
 rw[Bool.eq_iff_iff]
 simp
theorem ZC {i j:Array UInt8}:decide (V.byt i=V.byt j)=(i.toList == j.toList):=by
 rw[Bool.eq_iff_iff]
 cases i
 cases j
 simp
section
variable {X:Cx} {a b c:Expr} {ta tb tc:TE} {pos:Pos}
theorem jm {pins:List (Addr × Obj)} {σ:St} {H:Hp} {s:Shared} {Q:VK} {k k':Bool} (I:Inv X pins σ H s) (q:Q (.bl k) H) (e:k=k'):EP X pins σ Q (.bool k') s:=by
 subst e
 exact⟨.bl k,H,I,rfl,q⟩
theorem jd:pB X (compareOp .Eq) Po:=by
 intro pins s σ H x y v u Q I rx ry h
 obtain⟨hs,q⟩:=h
 cases x with
 | non=>
  cases rx
  cases y with
  | non=>cases ry;exact PySem.EqNone.eq_none_none (jm I q (by simp))
  | bl j=>cases ry;exact PySem.EqNone.eq_none_bool (jm I q (by simp))
  | int j=>obtain⟨t',rfl⟩:=ry;exact PySem.EqNone.eq_none_int (jm I q (by simp))
  | str j=>obtain⟨t',rfl⟩:=ry;exact PySem.EqNone.eq_none_str (jm I q (by simp))
  | _=>exact absurd (show false=true from hs) Bool.false_ne_true
 | bl i=>
  cases rx
  cases y with
  | non=>cases ry;exact PySem.EqNone.eq_bool_none (jm I q (by simp))
  | bl j=>cases ry;exact eq_bool (jm I q J2)
  | str j=>obtain⟨t',rfl⟩:=ry;exact PySem.EqMixed.eq_bool_str (jm I q (by simp))
  | _=>exact absurd (show false=true from hs) Bool.false_ne_true
 | int i=>
  obtain⟨t,rfl⟩:=rx
  cases y with
  | non=>cases ry;exact PySem.EqNone.eq_int_none (jm I q (by simp))
  | int j=>obtain⟨t',rfl⟩:=ry;exact eq_int (jm I q ZU)
  | str j=>obtain⟨t',rfl⟩:=ry;exact PySem.EqMixed.eq_int_str (jm I q (by simp))
  | _=>exact absurd (show false=true from hs) Bool.false_ne_true
 | str i=>
  obtain⟨t,rfl⟩:=rx
  cases y with
  | non=>cases ry;exact PySem.EqNone.eq_str_none (jm I q (by simp))
  | bl j=>cases ry;exact PySem.EqMixed.eq_str_bool (jm I q (by simp))
  | int j=>obtain⟨t',rfl⟩:=ry;exact PySem.EqMixed.eq_str_int (jm I q (by simp))
  | str j=>obtain⟨t',rfl⟩:=ry;exact eq_str (jm I q ZR)
  | _=>exact absurd (show false=true from hs) Bool.false_ne_true
 | byt i=>
  obtain⟨t,rfl⟩:=rx
  cases y with
  | byt j=>obtain⟨t',rfl⟩:=ry;exact PySem.W.eq_bytes (jm I q ZC)
  | _=>exact absurd (show false=true from hs) Bool.false_ne_true
 | _=>cases y<;>exact absurd (show false=true from hs) Bool.false_ne_true
theorem eo:pB X (compareOp .NotEq) Pa:=by
 intro pins s σ H x y v u Q I rx ry h
 obtain⟨hs,q⟩:=h
 cases x with
 | non=>
  cases rx
  cases y with
  | non=>cases ry;exact PySem.EqNone.ne_none_none (jm I q (by simp))
  | bl j=>cases ry;exact PySem.EqNone.ne_none_bool (jm I q (by simp))
  | int j=>obtain⟨t',rfl⟩:=ry;exact PySem.EqNone.ne_none_int (jm I q (by simp))
  | str j=>obtain⟨t',rfl⟩:=ry;exact PySem.EqNone.ne_none_str (jm I q (by simp))
  | _=>exact absurd (show false=true from hs) Bool.false_ne_true
 | bl i=>
  cases rx
  cases y with
  | non=>cases ry;exact PySem.EqNone.ne_bool_none (jm I q (by simp))
  | bl j=>cases ry;exact ne_bool (jm I q (congrArg not J2))
  | str j=>obtain⟨t',rfl⟩:=ry;exact PySem.EqMixed.ne_bool_str (jm I q (by simp))
  | _=>exact absurd (show false=true from hs) Bool.false_ne_true
 | int i=>
  obtain⟨t,rfl⟩:=rx
  cases y with
  | non=>cases ry;exact PySem.EqNone.ne_int_none (jm I q (by simp))
  | int j=>obtain⟨t',rfl⟩:=ry;exact ne_int (jm I q (congrArg not ZU))
  | str j=>obtain⟨t',rfl⟩:=ry;exact PySem.EqMixed.ne_int_str (jm I q (by simp))
  | _=>exact absurd (show false=true from hs) Bool.false_ne_true
 | str i=>
  obtain⟨t,rfl⟩:=rx
  cases y with
  | non=>cases ry;exact PySem.EqNone.ne_str_none (jm I q (by simp))
  | bl j=>cases ry;exact PySem.EqMixed.ne_str_bool (jm I q (by simp))
  | int j=>obtain⟨t',rfl⟩:=ry;exact PySem.EqMixed.ne_str_int (jm I q (by simp))
  | str j=>obtain⟨t',rfl⟩:=ry;exact ne_str (jm I q (congrArg not ZR))
  | _=>exact absurd (show false=true from hs) Bool.false_ne_true
 | byt i=>
  obtain⟨t,rfl⟩:=rx
  cases y with
  | byt j=>obtain⟨t',rfl⟩:=ry;exact PySem.W.ne_bytes (jm I q (congrArg not ZC))
  | _=>exact absurd (show false=true from hs) Bool.false_ne_true
 | _=>cases y<;>exact absurd (show false=true from hs) Bool.false_ne_true
theorem nj:pB X (compareOp .Lt) (Yc fun i j=>.bl (decide (i < j))):=Yq fun _ _ _ _ _ _ _ q=>lt_int q
theorem Wm:pB X (compareOp .LtE) (Yc fun i j=>.bl (decide (i≤j))):=Yq fun _ _ _ _ _ _ _ q=>le_int q
theorem en:pB X (compareOp .Gt) (Yc fun i j=>.bl (decide (j < i))):=Yq fun _ _ _ _ _ _ _ q=>gt_int q
theorem Jk:pB X (compareOp .In) (fun x y H Q=>∃i j,x=.str i∧y=.str j∧Q (.bl (!(Builtin.Str.occurrences j i 0 j.length 1).isEmpty)) H):=by
 intro pins s σ H x y v u Q I rx ry h
 obtain⟨i,j,rfl,rfl,q⟩:=h
 obtain⟨t,rfl⟩:=rx
 obtain⟨t',rfl⟩:=ry
 exact in_str (jm I q rfl)
theorem XM:pB X (compareOp .Is) (fun x y H Q=>y=.non∧Q (.bl (decide (x=.non))) H):=by
 intro pins s σ H x y v u Q I rx ry h
 obtain⟨rfl,q⟩:=h
 cases ry
 refine is_none_gen (jm I q ?_)
 cases x<;>first
  | (cases rx;rfl)
  | (obtain⟨t,rfl⟩:=rx;rfl)
theorem Qx:pB X (compareOp .IsNot) (fun x y H Q=>y=.non∧Q (.bl (!decide (x=.non))) H):=by
 intro pins s σ H x y v u Q I rx ry h
 obtain⟨rfl,q⟩:=h
 cases ry
 refine isnot_none_gen (jm I q ?_)
 cases x<;>first
  | (cases rx;rfl)
  | (obtain⟨t,rfl⟩:=rx;rfl)
noncomputable def isObj:HO→Bool
 | .lst _=>true
 | .ins _ _ _=>true
 | _=>false
theorem qe (b:Expr) {op:CmpOp} (h:op≠.In:=by decide) (h2:op≠.NotIn:=by decide):behindInMarks op b=false:=by
 have e1:(op == CmpOp.In)=false:=by cases op<;>first | rfl | exact absurd rfl h
 have e2:(op == CmpOp.NotIn)=false:=by cases op<;>first | rfl | exact absurd rfl h2
 cases b<;>simp [behindInMarks,e1,e2]
theorem va {op:CmpOp} {r:R2} (ho:pB X (compareOp op) r) (ha:PE X a ta) (hb:PE X b tb) (hm:behindInMarks op b=false):PE X (.Compare a [op] [b] pos) (Ht r ta tb):=by
 intro pins s σ H Q I h
 exact wpAny_Compare1 (WW ha hb I h fun v u s2 x y H2 I2 rx ry q=>ho pins s2 σ H2 x y v u Q I2 rx ry q) hm
noncomputable def G6 (t:TE):TT:=fun σ H Q=>t σ H fun x H'=>∃k,x=.bl k∧Q k H'
theorem ql {op:CmpOp} {r:R2} (ho:pB X (compareOp op) r) (ha:PE X a ta) (hb:PE X b tb) (hm:behindInMarks op b=false):PT X (.Compare a [op] [b] pos) (G6 (Ht r ta tb)):=by
 intro pins s σ H Q I h
 refine wpAny_isTrue_Compare1 (xl (ha pins s σ H _ I h) fun v s1 ⟨x,H1,I1,r1,q1⟩=>xl (hb pins s1 σ H1 _ I1 q1) fun u s2 ⟨y,H2,I2,r2,q2⟩=>
  xl (ho pins s2 σ H2 x y v u _ I2 r1 r2 q2) fun c s3 ⟨z,H3,I3,r3,k,e,q3⟩=>?_) hm
 subst e
 cases r3
 exact wpAny_truthy_bool ⟨H3,I3,q3⟩
noncomputable def YY (r r':R2) (ta tb tc:TE):TE:=fun σ H Q=>ta σ H fun x H1=>tb σ H1 fun y H2=>r x y H2 fun z H3=>∃k,z=.bl k∧
 (if k=true then tc σ H3 fun w' H4=>r' y w' H4 Q else Q (.bl false) H3)
theorem XR {op op':CmpOp} {r r':R2} (ho:pB X (compareOp op) r) (ho':pB X (compareOp op') r') (ha:PE X a ta) (hb:PE X b tb) (hc:PE X c tc)
  (hm:lastMarks [op,op'] [b,c]=false:=by with_unfolding_all rfl):PE X (.Compare a [op,op'] [b,c] pos) (YY r r' ta tb tc):=by
 intro pins s σ H Q I h
 refine Compare_chain (xl (ha pins s σ H _ I h) fun v s1 ⟨x,H1,I1,r1,q1⟩=>chain_link (xl (hb pins s1 σ H1 _ I1 q1) fun u s2 ⟨y,H2,I2,r2,q2⟩=>
  xl (ho pins s2 σ H2 x y v u _ I2 r1 r2 q2) fun d s3 ⟨z,H3,I3,r3,k,e,q3⟩=>?_)) hm
 subst e
 cases r3
 refine wpAny_truthy_bool ?_
 cases k with
 | false=>exact ite_ff ⟨.bl false,H3,I3,rfl,q3⟩
 | true=>exact ite_tt (chain_last (xl (hc pins s3 σ H3 _ I3 q3) fun w' s4 ⟨z',H4,I4,r4,q4⟩=>ho' pins s4 σ H4 y z' u w' Q I4 r2 r4 q4))
noncomputable def Pd (K:PySem.W.Frag) (x:V) (H:Hp) (k:Bool):Prop:=
 match x with
 | .non=>k=false
 | .bl b=>k=b
 | .int i=>k=(i != 0)
 | .str y=>y.length≤sizeLine∧k=((y.length:Int) != 0)
 | .byt y=>y.size≤sizeLine∧k=((y.size:Int) != 0)
 | .ref p=>(∃xs,qD K H p xs∧k = !xs.isEmpty)∨(∃xs,yy K H p xs∧k = !xs.isEmpty)∨∃kvs,H p=some (.dK kvs)∧k = !kvs.isEmpty
 | _=>False
theorem rA:(sizeLine:Nat) < 2 ^ 63:=by rw[sizeLine_eq];decide
theorem qt:pB X (binaryOp .Add) (fun x y H Q=>∃i j,x=.str i∧y=.str j∧i.length + j.length≤sizeLine∧Q (.str (i ++ j)) H):=by
 intro pins s σ H x y v u Q I rx ry h
 obtain⟨i,j,rfl,rfl,hz,q⟩:=h
 obtain⟨t,rfl⟩:=rx
 obtain⟨t',rfl⟩:=ry
 exact add_str (fun t' tk=>⟨.str (i ++ j),H,I.tok _,⟨_,rfl⟩,q⟩) hz
noncomputable def Y7 (b:Expr):Prop:=∀o i,subscripted b false o i=operate [o,i] (getItem o i)
theorem vals1 {x:V} {us:List Value} (r:Vals [x] us):∃u,us=[u]∧RelV x u:=by
 cases r with
 | cons r1 r2=>cases r2;exact⟨_,rfl,r1⟩
theorem vals2 {x y:V} {us:List Value} (r:Vals [x,y] us):∃u w',us=[u,w']∧RelV x u∧RelV y w':=by
 cases r with
 | cons r1 r2=>
  cases r2 with
  | cons r3 r4=>cases r4;exact⟨_,_,rfl,r1,r3⟩
theorem fU:vC X (.type "int") (fun xs H Q=>(∃i,xs=[.int i]∧Q (.int i) H)∨∃k,xs=[.bl k]∧Q (.int (if k then 1 else 0)) H):=by
 intro pins s σ H xs us Q I r h
 rcases h with ⟨i,rfl,q⟩ | ⟨k,rfl,q⟩
 ·obtain⟨u,rfl,t,rfl⟩:=vals1 r
  exact call_int_int ⟨.int i,H,I,⟨_,rfl⟩,q⟩
 ·obtain⟨u,rfl,r1⟩:=vals1 r
  cases r1
  exact call_int_bool ⟨.int (if k then 1 else 0),H,I.tok _,⟨_,rfl⟩,q⟩
theorem dm:vC X (.type "str") (fun xs H Q=>∃i,xs=[.int i]∧i.natAbs.log2 < 1920∧Q (.str (toString i)) H):=by
 intro pins s σ H xs us Q I r h
 obtain⟨i,rfl,hz,q⟩:=h
 obtain⟨u,rfl,t,rfl⟩:=vals1 r
 exact PySem.P.str_of_int hz ⟨.str _,H,I.tok _,⟨_,rfl⟩,q⟩
noncomputable def Pg (K:PySem.W.Frag) (x:V) (H:Hp) (n:Nat):Prop:=
 match x with
 | .str y=>y.length≤sizeLine∧n=y.length
 | .byt y=>y.size≤sizeLine∧n=y.size
 | .ref p=>(∃xs,qD K H p xs∧n=xs.length)∨∃xs,yy K H p xs∧n=xs.length
 | _=>False
end
end L2
namespace L2
open PySem PySem.Spec PyProof.Rows
structure ae (h:Heap) (x dx C:Addr) (mA:Str→Option Value):Prop where
 obj:h.get? x=some (PySem.W.instObj C dx)
 ns:h.Ns1 dx mA
 ne:dx≠x
theorem tR {h:Heap} {dx:Addr} {mA:Str→Option Value} (n:h.Ns1 dx mA):∃od,h.get? dx=some od∧∀name,PySem.W.lookIn name od=some (mA name):=by
 obtain⟨o,es,ep,ho,hd,hk,_,hm⟩:=n
 refine⟨o,ho,fun name=>?_⟩
 have e:=hm name
 unfold nsFind findBy at e
 rw[←Array.find?_toList] at e
 unfold PySem.W.lookIn
 rw[hd]
 dsimp only
 split
 ·rename_i y q
  rw[q] at e
  exact congrArg some e
 ·rename_i q
  rw[q] at e
  have a:es.toList.any (·.refKey)=false:=by
   rw[List.any_eq_false]
   intro y hy
   obtain⟨z,t,hkey⟩:=hk y (Array.mem_toList_iff.mp hy)
   simp [DictEntry.refKey,hkey]
  have a':¬es.toList.any (·.refKey)=true:=by rw[a];exact Bool.false_ne_true
  rw[if_neg a']
  exact congrArg some e
theorem ae.look {h:Heap} {x dx C:Addr} {mA:Str→Option Value} (I:ae h x dx C mA):∃od,PySem.W.InstAt h x (PySem.W.instObj C dx) C (some od)∧∀name,PySem.W.lookIn name od=some (mA name):=
 let ⟨od,ho,hl⟩:=tR I.ns
 ⟨od,⟨I.obj,rfl,rfl,ho⟩,hl⟩
section
variable {prog:Program} {w:World} {A:Around} {E:Value→Shared→Prop} {s:Shared} {K:PySem.W.Frag} {x dx C f:Addr} {mA:Str→Option Value} {name:Str} {v:Value}
theorem get_map {expr:Bool} {Q:Value→Shared→Prop} (X:K.In s.heap) (I:ae s.heap x dx C mA) (hg:PySem.W.plainGet K C name=true) (hh:PySem.W.hasDictIn K C=true)
  (ha:PySem.W.findIn K (.ref C) name=some none) (hv:mA name=some v) (hv':PySem.W.handedIn v=true) (h:Q v { s with toks:=s.toks + 1 }) :
  wpAny (model prog w) A (getAttr (.ref x) name expr) Q E s:=by
 obtain⟨od,J,hl⟩:=I.look
 exact PySem.W.get_value X J (PySem.W.plainGet_of hg).1 (PySem.W.findObj_own hh ha rfl (by rw[hl,hv])) hv' h
theorem Xy {pl:Sem Bool} {Q:Value × List Value→Shared→Prop} (X:K.In s.heap) (I:ae s.heap x dx C mA) (hg:PySem.W.plainGet K C name=true)
  (hf:PySem.W.findIn K (.ref C) name=some (some (.ref f))) (ht:PySem.W.isFn K (.ref f)=true) (hv:mA name=none) (h:Q (.ref f,[.ref x]) s) :
  wpAny (model prog w) A (getMethod (.ref x) name pl) Q E s:=by
 obtain⟨od,J,hl⟩:=I.look
 exact PySem.W.method_fn X J (PySem.W.plainGet_of hg).1 (PySem.W.plainGet_of hg).2 hf (beq_iff_eq.mp ht) (by show (PySem.W.lookIn name od).map (·.isSome)=some false;rw[hl,hv];rfl) h
theorem VS {ns:List Str} {Q:Unit→Shared→Prop} (X:K.In s.heap) (I:ae s.heap x dx C mA)
  (hs:PySem.W.findIn K (.ref C) "__setattr__" = some (some (.builtin "object.__setattr__"))) (hp:PySem.W.plainOver K C=true) (ht:PySem.W.takerIn K C name=some none) (hh:PySem.W.hasDictIn K C=true)
  (hw:PySem.Within mA ns) (hsz:ns.length≤sizeLine)
  (h:∀h',ae h' x dx C (fun y=>if y=name then some v else mA y)→Heap.SameBut dx s.heap h'→Q () { s with heap:=h',toks:=s.toks + 2 }) :
  wpAny (model prog w) A (setAttr (.ref x) name v) Q E s:=by
 obtain⟨od,J,hl⟩:=I.look
 refine PySem.W.set_plain X J hs (PySem.W.osa_open (s:={ s with toks:=s.toks + 1 }) (r:=none) X J hp ht fun b=>?_)
 obtain⟨cd,hc,hd'⟩:=PySem.W.any_some hh
 have hx:s.heap.get? x=some ⟨.ref C,some dx,.plain,#[]⟩:=I.obj
 refine wpAny_bind (wpAny_pure (wpAny_bind (wpAny_bind (wpAny_loadPart hx (wpAny_bind (PySem.W.Looks.here (s:={ s with toks:=s.toks + 1 }) (PySem.W.looks_clsIn X hc) ?_))))))
 rw[hd']
 refine wpAny_pure (a:=some dx) (wpAny_bind (wpAny_pure (wpAny_bind ?_)))
 refine wpAny_nsSet1 (s:={ s with toks:=s.toks + 1 }) I.ns fun h' hn2 hs2=>?_
 obtain⟨oD,esD,epD,hoD,hdD,hcD⟩:=hn2.count (PySem.Within.cons name v hw)
 refine wpAny_bind (wpAny_lookBehind hoD (by rw[hdD];exact pastItsLine_dict (Nat.le_trans hcD (by rw[List.length_cons];omega))) ?_)
 exact wpAny_pure (h _ ⟨(hs2.2 _ (Ne.symm I.ne)).trans I.obj,hn2,I.ne⟩ hs2)
theorem Xn {R:Result→Shared→Prop} {vs:List Value} {kw:List (Str × Value)} (X:K.In s.heap) (hm:PySem.W.makesIn K C=true)
  (hi:PySem.W.findIn K (.ref C) "__init__" = some (some (.ref f))) (hf:PySem.W.typeIn K (.ref f)=some (.type "function"))
  (h:codeAny (model prog w) (A.under (.builtin "type.__call__" ⟨.ref C :: vs,kw⟩)) (.call (.ref f) ⟨.ref (s.heap.objs.size + 1) :: vs,kw⟩) (PySem.W.InitBack (s.heap.objs.size + 1) R)
   { s with heap:=(s.heap.push PySem.W.emptyDict).push (PySem.W.instObj C s.heap.objs.size) }) :
  codeAny (model prog w) A (.call (.ref C) ⟨vs,kw⟩) R s:=by
 obtain⟨hh,g,d,t,os⟩:=s
 exact PySem.W.make_core (PySem.W.makes_of X hm) (PySem.W.looks_findIn X hi) (fun self=>PySem.W.bind_fn X self hf) (.inl rfl) h
end
noncomputable def qM (f:Str) (v:V):List (Str × V)→List (Str × V)
 | []=>[(f,v)]
 | (g,x) :: r=>if g=f then (g,v) :: r else (g,x) :: qM f v r
theorem p8 (f g:Str) (v:V):∀fs:List (Str × V),(qM f v fs).lookup g=if g=f then some v else fs.lookup g
 | []=>by
  show List.lookup g [(f,v)]=_
  by_cases h:g=f
  ·have hb:(g == f)=true:=beq_iff_eq.mpr h
   simp only[List.lookup,hb,if_pos h]
  ·have hb:(g == f)=false:=beq_eq_false_iff_ne.mpr h
   simp only[List.lookup,hb,if_neg h]
 | (k,x) :: r=>by
  have ih:=p8 f g v r
  rw[show qM f v ((k,x) :: r)=(if k=f then (k,v) :: r else (k,x) :: qM f v r) from rfl]
  by_cases hk:k=f
  ·rw[if_pos hk]
   by_cases h:g=k
   ·have hb:(g == k)=true:=beq_iff_eq.mpr h
    simp only[List.lookup,hb,if_pos (h.trans hk)]
   ·have hb:(g == k)=false:=beq_eq_false_iff_ne.mpr h
    simp only[List.lookup,hb,if_neg (fun e:g=f=>h (e.trans hk.symm))]
  ·rw[if_neg hk]
   by_cases h:g=k
   ·have hb:(g == k)=true:=beq_iff_eq.mpr h
    simp only[List.lookup,hb,if_neg (fun e:g=f=>hk (h.symm.trans e))]
   ·have hb:(g == k)=false:=beq_eq_false_iff_ne.mpr h
    simp only[List.lookup,hb]
    exact ih
theorem hZ (f:Str) (v:V):∀fs:List (Str × V),f∈(qM f v fs).map (·.1)∧∀g,g∈fs.map (·.1)→g∈(qM f v fs).map (·.1)
 | []=>⟨by simp [qM],fun g h=>by simp at h⟩
 | (k,x) :: r=>by
  obtain⟨i1,i2⟩:=hZ f v r
  rw[show qM f v ((k,x) :: r)=(if k=f then (k,v) :: r else (k,x) :: qM f v r) from rfl]
  by_cases hk:k=f
  ·rw[if_pos hk]
   subst hk
   exact⟨by simp,fun g h=>by simpa using h⟩
  ·rw[if_neg hk]
   refine⟨?_,fun g h=>?_⟩
   ·rw[List.map_cons]
    exact List.mem_cons_of_mem _ i1
   ·rw[List.map_cons] at h ⊢
    rcases List.mem_cons.mp h with e | e
    ·exact List.mem_cons.mpr (.inl e)
    ·exact List.mem_cons_of_mem _ (i2 g e)
theorem x3 (f:Str) (v:V):∀fs:List (Str × V),(qM f v fs).length≤fs.length + 1
 | []=>by simp [qM]
 | (k,x) :: r=>by
  have ih:=x3 f v r
  rw[show qM f v ((k,x) :: r)=(if k=f then (k,v) :: r else (k,x) :: qM f v r) from rfl]
  by_cases hk:k=f
  ·rw[if_pos hk,List.length_cons,List.length_cons];omega
  ·rw[if_neg hk,List.length_cons,List.length_cons];omega
theorem gI.some_of {v:V} {o:Option Value} (r:gI (some v) o):∃u,o=some u∧RelV v u:=by
 cases o with
 | none=>exact(show False from r).elim
 | some u=>exact⟨u,rfl,r⟩
theorem gI.none_of {o:Option Value} (r:gI none o):o=none:=by
 cases o with
 | none=>rfl
 | some u=>exact(show False from r).elim
theorem QL {v:V} {u:Value} (r:RelV v u):PySem.W.handedIn u=true:=by
 cases v with
 | non=>cases (show u=Value.none from r);rfl
 | bl b=>cases (show u=Value.bool b from r);rfl
 | int i=>obtain⟨t,e⟩:=(show ∃t,u=Value.int i t from r);cases e;rfl
 | str x=>obtain⟨t,e⟩:=(show ∃t,u=Value.str x t from r);cases e;rfl
 | byt b=>obtain⟨t,e⟩:=(show ∃t,u=Value.bytes b t from r);cases e;rfl
 | flt b=>obtain⟨t,e⟩:=(show ∃t,u=Value.float b t from r);cases e;rfl
 | ref a=>cases (show u=Value.ref a from r);rfl
 | ty n=>cases (show u=Value.type n from r);rfl
section
variable {P:Program} {w:World} {H H':Hp} {h h':Heap} {a C dx:Addr} {fs fs':List (Str × V)}
theorem uE (jc:pW P w H h) (e:H a=some (.ins C dx fs)):∃mA,ae h a dx C mA∧(∀f,gI (fs.lookup f) (mA f))∧PySem.Within mA (fs.map (·.1))∧fs.length≤1000∧H dx=some (.own a):=by
 obtain⟨d,z,ne,ob,mA,n,r,q⟩:=(show xb P w H h a (.ins C dx fs) from jc a _ e)
 exact⟨mA,⟨ob,n,ne⟩,r,q,z,d⟩
end
structure uV (K:PySem.W.Frag) (C:Addr):Prop where
 pg:PySem.W.plainGet K C Str.empty=true
 hd:PySem.W.hasDictIn K C=true
 po:PySem.W.plainOver K C=true
 sa:PySem.W.findIn K (.ref C) "__setattr__" = some (some (.builtin "object.__setattr__"))
theorem uV.get {K:PySem.W.Frag} {C:Addr} (c:uV K C) (f:Str):PySem.W.plainGet K C f=true:=c.pg
noncomputable def qW (K:PySem.W.Frag) (C:Addr) (f:Str):Prop:=PySem.W.findIn K (.ref C) f=some none
theorem qW.Hj {K:PySem.W.Frag} {C:Addr} {f:Str} (n:qW K C f):PySem.W.takerIn K C f=some none:=by
 unfold PySem.W.takerIn
 rw[show PySem.W.findIn K (.ref C) f=some none from n]
 rfl
structure Pj (K:PySem.W.Frag) (C:Addr) (f:Str) (v:V) (u:Value):Prop where
 at_:PySem.W.findIn K (.ref C) f=some (some u)
 rel:RelV v u
 get:PySem.W.specialIn K u "__get__" = some none
 cp:PySem.W.copiedNames.contains f=false
structure Meth (K:PySem.W.Frag) (C:Addr) (m:Str) (f:Addr):Prop where
 at_:PySem.W.findIn K (.ref C) m=some (some (.ref f))
 fn:PySem.W.isFn K (.ref f)=true
 kp:PySem.W.keepIn K (.ref f)=true
section
variable {X:Cx} {pins:List (Addr × Obj)} {σ:St} {H:Hp} {s:Shared} {a C dx:Addr} {fs:List (Str × V)} {f:Str} {v:V} {A:Around} {E:Value→Shared→Prop}
theorem aF {b:Bool} {Q:Value→Shared→Prop} (I:Inv X pins σ H s) (e:H a=some (.ins C dx fs)) (c:uV X.K C) (n:qW X.K C f) (l:fs.lookup f=some v)
  (h:∀u s',Inv X pins σ H s'→RelV v u→Q u s'):wpAny (model X.prog X.w) A (getAttr (.ref a) f b) Q E s:=by
 obtain⟨mA,O,r,_,_,_⟩:=uE I.jc e
 obtain⟨u,hu,ru⟩:=gI.some_of (v:=v) (o:=mA f) (by rw[←l];exact r f)
 exact get_map I.pY O (c.get f) c.hd n hu (QL ru) (h u _ (I.tok _) ru)
theorem mI {m:Str} {g:Addr} {pl:Sem Bool} {Q:Value × List Value→Shared→Prop} (I:Inv X pins σ H s) (e:H a=some (.ins C dx fs)) (c:uV X.K C) (k:Meth X.K C m g) (l:fs.lookup m=none)
  (h:Q (.ref g,[.ref a]) s):wpAny (model X.prog X.w) A (getMethod (.ref a) m pl) Q E s:=by
 obtain⟨mA,O,r,_,_,_⟩:=uE I.jc e
 have hn:mA m=none:=gI.none_of (by rw[←l];exact r m)
 exact Xy I.pY O (c.get m) k.at_ k.fn hn h
theorem Zd {y:V} {u:Value} {Q:Unit→Shared→Prop} (I:Inv X pins σ H s) (e:H a=some (.ins C dx fs)) (c:uV X.K C) (n:qW X.K C f) (hl:fs.length < 1000) (ry:RelV y u)
  (h:∀s',Inv X pins σ (upd H a (.ins C dx (qM f y fs))) s'→Q () s'):wpAny (model X.prog X.w) A (setAttr (.ref a) f u) Q E s:=by
 obtain⟨mA,O,r,wi,_,ho⟩:=uE I.jc e
 have hz:(fs.map (·.1)).length≤sizeLine:=by rw[List.length_map,sizeLine_eq];omega
 refine VS I.pY O c.sa c.po n.Hj c.hd wi hz fun h' O' sb=>h _ ?_
 have hd:∃o,h'.get? dx=some o:=let ⟨o,_,_,e',_⟩:=O'.ns;⟨o,e'⟩
 refine I.write (x:=a) (e:=dx) (by rw[e];exact True.intro) (.inr ho) (fun b q hb z=>(sb.2 b hb).trans z) hd ?_
 refine⟨by rw[qB O.ne];exact ho,?_,O.ne,O'.obj,_,O'.ns,fun g=>?_,fun g hg=>?_⟩
 ·have:=x3 f y fs;omega
 ·show gI ((qM f y fs).lookup g) (if g=f then some u else mA g)
  rw[p8]
  by_cases q:g=f
  ·rw[if_pos q,if_pos q];exact ry
  ·rw[if_neg q,if_neg q];exact r g
 ·by_cases q:g=f
  ·rw[q];exact(hZ f y fs).1
  ·refine(hZ f y fs).2 g (wi g fun z=>hg ?_)
   show (if g=f then some u else mA g)=none
   rw[if_neg q];exact z
theorem Inv.made (I:Inv X pins σ H s):Inv X pins σ (upd (upd H s.heap.objs.size (.own (s.heap.objs.size + 1))) (s.heap.objs.size + 1) (.ins C s.heap.objs.size []))
  { s with heap:=(s.heap.push PySem.W.emptyDict).push (PySem.W.instObj C s.heap.objs.size) }:=by
 have e1:(s.heap.push PySem.W.emptyDict).get? s.heap.objs.size=some PySem.W.emptyDict:=Heap.get?_push_size s.heap rfl
 have e2:((s.heap.push PySem.W.emptyDict).push (PySem.W.instObj C s.heap.objs.size)).get? (s.heap.objs.size + 1)=some (PySem.W.instObj C s.heap.objs.size):=by
  have:=Heap.get?_push_size (s.heap.push PySem.W.emptyDict) (o:=PySem.W.instObj C s.heap.objs.size) rfl
  rwa [Heap.size_push] at this
 have e3:(s.heap.push PySem.W.emptyDict).Ns s.heap.objs.size (fun _=>none):=⟨PySem.W.emptyDict,#[],_,e1,rfl,(fun e he=>absurd he (by simp)),fun _=>rfl⟩
 have I1:=I.laid (a:=s.heap.objs.size) (o:=.own (s.heap.objs.size + 1)) (h':=s.heap.push PySem.W.emptyDict) (t':=s.toks) (fun b u q=>Heap.get?_push_of_some _ q) (Nat.le_refl _) ⟨_,e1⟩
 refine I1.laid (a:=s.heap.objs.size + 1) (o:=.ins C s.heap.objs.size []) (t':=s.toks) (fun b u q=>Heap.get?_push_of_some _ q) (Nat.le_of_eq (Heap.size_push _ _)) ?_
 have ne:s.heap.objs.size≠s.heap.objs.size + 1:=Nat.ne_of_lt (Nat.lt_succ_self _)
 refine⟨by rw[qB ne,qx],Nat.zero_le _,ne,e2,fun _=>none,(Heap.Ns1.of_empty e3).at fun o q=>Heap.get?_push_of_some _ q,fun _=>True.intro,fun y hy=>absurd rfl hy⟩
theorem K7 {prog:Program} {w:World} {env:Env} {e:Expr} {f:Str} {pos:Pos} {s:Shared} {Q:Value→Shared→Prop} (hb:attributeBase e f env (eval e env)=eval e env)
  (h:wpAny (model prog w) A (eval e env) (fun o s₁=>wpAny (model prog w) A (getAttr o f true) Q E s₁) E s):wpAny (model prog w) A (eval (.Attribute e f pos) env) Q E s:=
 Attribute_any_ h (by rw[arm_eval_Attribute,hb])
end
noncomputable def Bs (K:PySem.W.Frag) (ta:TE) (f:Str):TE:=fun σ H Q=>ta σ H fun x H1=>∃a C dx fs v,x=.ref a∧H1 a=some (.ins C dx fs)∧uV K C∧qW K C f∧fs.lookup f=some v∧Q v H1
noncomputable def PF (K:PySem.W.Frag) (ta:TE) (f:Str):TE:=fun σ H Q=>ta σ H fun x H1=>∃a C dx fs v u,x=.ref a∧H1 a=some (.ins C dx fs)∧uV K C∧Pj K C f v u∧fs.lookup f=none∧Q v H1
noncomputable def Bh (K:PySem.W.Frag) (ta tv:TE) (f:Str):TS:=fun D σ H=>tv σ H fun y H1=>ta σ H1 fun x H2=>∃a C dx fs,x=.ref a∧H2 a=some (.ins C dx fs)∧uV K C∧qW K C f∧fs.length < 1000∧
 D.nx σ (upd H2 a (.ins C dx (qM f y fs)))
noncomputable def Pw (X:Cx) (op:Operator) (rd:V→V→Hp→VK→Prop):Prop:=
 ∀(pins:List (Addr × Obj)) (s:Shared) (σ:St) (H:Hp) (x y:V) (u v:Value) (Q:VK),Inv X pins σ H s→RelV x u→RelV y v→rd x y H Q→wpAny (model X.prog X.w) X.A (inplaceOp op u v) (EP X pins σ Q) X.xe s
noncomputable def Hd (K:PySem.W.Frag) (ta tv:TE) (rd:V→V→Hp→VK→Prop) (f:Str):TS:=fun D σ H=>ta σ H fun x H1=>∃a C dx fs v,x=.ref a∧H1 a=some (.ins C dx fs)∧uV K C∧qW K C f∧fs.lookup f=some v∧
 tv σ H1 fun y H2=>rd v y H2 fun z H3=>∃dx' fs',H3 a=some (.ins C dx' fs')∧fs'.length < 1000∧D.nx σ (upd H3 a (.ins C dx' (qM f z fs')))
section
variable {X:Cx} {o e value:Expr} {f:Str} {pos pos' tpos:Pos} {ta tv:TE}
theorem Yw (he:PE X e ta) (hb:attributeBase e f X.env (eval e X.env)=eval e X.env):PE X (.Attribute e f pos) (Bs X.K ta f):=by
 intro pins s σ H Q I h
 refine K7 hb (xl (he pins s σ H _ I h) fun u s1 ⟨x,H1,I1,rx,a,C,dx,fs,v,ex,ea,c,n,l,q⟩=>?_)
 subst ex
 obtain rfl:u=Value.ref a:=rx
 exact aF I1 ea c n l fun u' s2 I2 ru=>⟨v,H1,I2,ru,q⟩
theorem kz (ha:PE X o ta) (hv:PE X value tv) (hs:swapsWith value (some (.Attribute o f pos')) pos.line X.env=pure false):PS X (.Assign [.Attribute o f pos'] value pos) (Bh X.K ta tv f):=by
 intro pins s σ H D I h
 refine plainObj_wpAny_Assign_Attribute (xl (hv pins s σ H _ I h) fun u s1 ⟨y,H1,I1,ry,q⟩=>xl (ha pins s1 σ H1 _ I1 q) fun ov s2 ⟨x,H2,I2,rx,a,C,dx,fs,ex,ea,c,n,l,q2⟩=>?_) hs
 subst ex
 obtain rfl:ov=Value.ref a:=rx
 exact Zd I2 ea c n l ry fun s3 I3=>⟨σ,_,I3,q2⟩
noncomputable def Pn:V→V→Hp→VK→Prop:=fun x y H Q=>∃i j,x=.int i∧y=.int j∧Q (.int (i + j)) H
noncomputable def PJ:V→V→Hp→VK→Prop:=fun x y H Q=>∃i j,x=.int i∧y=.int j∧Q (.int (i - j)) H
theorem Wf {pl:Sem Bool} {m:Str} {apos:Pos} {args:List Expr} {pins:List (Addr × Obj)} {s:Shared} {σ:St} {H:Hp} {Q:Value→Shared→Prop} {te:TE} (he:PE X e te) (I:Inv X pins σ H s)
  (h:te σ H fun x H1=>∃a C dx fs g,x=.ref a∧H1 a=some (.ins C dx fs)∧uV X.K C∧Meth X.K C m g∧fs.lookup m=none∧
   ∀s1,Inv X pins σ H1 s1→wpAny (model X.prog X.w) X.A (callWith pos (.ref g) [.ref a] (backTo pos (starEach args X.env)) (backToKw pos (keywordEach [] X.env))) Q X.xe s1)
  (ht:eval (.Call (.Attribute e m apos) args [] pos) X.env=(do
   let ov ←eval e X.env
   standAt apos.atName
   let (f,first) ←holding [ov] (getMethod ov m pl)
   callWith pos f first (backTo pos (starEach args X.env)) (backToKw pos (keywordEach [] X.env)))) :
  wpAny (model X.prog X.w) X.A (eval (.Call (.Attribute e m apos) args [] pos) X.env) Q X.xe s:=by
 refine PySem.W.methodCall_KW (pl:=pl) (xl (he pins s σ H _ I h) fun u s1 ⟨x,H1,I1,rx,a,C,dx,fs,g,ex,ea,c,k,l,q⟩=>?_) ht
 subst ex
 obtain rfl:u=Value.ref a:=rx
 exact mI I1 ea c k l (q s1 I1)
end
section
variable {X:Cx} {pins:List (Addr × Obj)} {σ:St} {H:Hp} {s:Shared} {A:Around} {E:Value→Shared→Prop} {Q:Value→Shared→Prop} {c:Value} {b:Bool}
inductive wY (K:PySem.W.Frag) (H:Hp):V→Value→Prop where
 | non:wY K H .non (.type "NoneType")
 | bl (x:Bool):wY K H (.bl x) (.type "bool")
 | int (i:Int):wY K H (.int i) (.type "int")
 | str (x:Str):wY K H (.str x) (.type "str")
 | flt (x:UInt64):wY K H (.flt x) (.type "float")
 | lst {a:Addr} {xs:List V} (e:H a=some (.lst xs)):wY K H (.ref a) (.type "list")
 | frz {a:Addr} {o:Obj} {xs:List V} (e:H a=some (.frz o (.lst xs))):wY K H (.ref a) (.type "list")
 | tup {a:Addr} {xs:List V} (e:H a=some (.tup xs)):wY K H (.ref a) (.type "tuple")
 | dK {a:Addr} {kvs:List (Key × V)} (e:H a=some (.dK kvs)):wY K H (.ref a) (.type "dict")
 | dT {a:Addr} {kvs:List (List Key × V)} (e:H a=some (.dT kvs)):wY K H (.ref a) (.type "dict")
 | ins {a C dx:Addr} {fs:List (Str × V)} (e:H a=some (.ins C dx fs)) (cl:uV K C) (ha:PySem.W.findIn K (.ref C) "__class__" = some (some (.builtin "object.__class__")))
   (hn:PySem.W.specialIn K (.builtin "object.__class__") "__get__" = some (some (.builtin "getset_descriptor.__get__"))) (uO:PySem.W.takesIn K (.builtin "object.__class__")=some true)
   (hm:PySem.W.mroIn K C (.type "object")=some true):wY K H (.ref a) (.ref C)
theorem QN {x:V} {u t:Value} (I:Inv X pins σ H s) (rx:RelV x u) (ty:wY X.K H x t) (e:PySem.W.kitOne X.K t c=some b) (h:∀tk,Q (.bool b) { s with toks:=tk }) :
  wpAny (model X.prog X.w) A (call (.builtin "isinstance") [u,c]) Q E s:=by
 cases ty with
 | non=>cases (show u=Value.none from rx);exact PySem.W.kia_one PySem.W.kitx_none I.pY True.intro e (fun z=>nomatch z) h
 | bl y=>cases (show u=Value.bool y from rx);exact PySem.W.kia_one PySem.W.kitx_bool I.pY True.intro e (fun z=>nomatch z) h
 | int i=>obtain⟨t,q⟩:=(show ∃t,u=Value.int i t from rx);cases q;exact PySem.W.kia_one PySem.W.kitx_int I.pY True.intro e (fun z=>nomatch z) h
 | str y=>obtain⟨t,q⟩:=(show ∃t,u=Value.str y t from rx);cases q;exact PySem.W.kia_one PySem.W.kitx_str I.pY True.intro e (fun z=>nomatch z) h
 | flt y=>obtain⟨t,q⟩:=(show ∃t,u=Value.float y t from rx);cases q;exact PySem.W.kia_one PySem.W.kitx_float I.pY True.intro e (fun z=>nomatch z) h
 | @lst a xs ea=>
  cases (show u=Value.ref a from rx)
  obtain⟨_,_,n,_,h1⟩:=(show xb X.prog X.w H s.heap a (.lst xs) from I.jc a _ ea)
  exact PySem.W.kia_one PySem.W.kitx_list I.pY ⟨_,h1,rfl⟩ e (fun z=>nomatch z) h
 | @frz a ob xs ea=>
  cases (show u=Value.ref a from rx)
  obtain⟨_,_,_,n,_,h1⟩:=(show xb X.prog X.w H s.heap a (.frz ob (.lst xs)) from I.jc a _ ea)
  exact PySem.W.kia_one PySem.W.kitx_list I.pY ⟨_,h1,rfl⟩ e (fun z=>nomatch z) h
 | @tup a xs ea=>
  cases (show u=Value.ref a from rx)
  obtain⟨_,_,_,p⟩:=(show xb X.prog X.w H s.heap a (.tup xs) from I.jc a _ ea)
  obtain⟨o,h1,h2,_⟩:=p
  exact PySem.W.kia_one PySem.W.kitx_tuple I.pY ⟨o,h1,h2⟩ e (fun z=>nomatch z) h
 | @dK a kvs ea=>
  cases (show u=Value.ref a from rx)
  obtain⟨_,_,vs,_,p⟩:=(show xb X.prog X.w H s.heap a (.dK kvs) from I.jc a _ ea)
  obtain⟨o,es,ep,h1,h2,_⟩:=p
  exact PySem.W.kia_one PySem.W.kitx_dict I.pY ⟨o,h1,h2.1⟩ e (fun z=>nomatch z) h
 | @dT a kvs ea=>
  cases (show u=Value.ref a from rx)
  obtain⟨_,_,xs,_,o,es,ep,h1,h2,_⟩:=(show xb X.prog X.w H s.heap a (.dT kvs) from I.jc a _ ea)
  exact PySem.W.kia_one PySem.W.kitx_dict I.pY ⟨o,h1,h2.1⟩ e (fun z=>nomatch z) h
 | @ins a C dx fs ea cl ha hn uO hm=>
  cases (show u=Value.ref a from rx)
  obtain⟨mA,O,_⟩:=uE I.jc ea
  obtain⟨od,J,_⟩:=O.look
  exact PySem.W.kia_one (PySem.W.kitx_own (cl.get _) cl.hd ha hn uO hm) I.pY J e (fun z=>nomatch z) h
end
end L2
namespace L2
open PySem PySem.Spec PyProof.Rows
structure vJ (k:Nat) (A:Around):Prop where
 hd:A.handled=none
 dp:A.depth + 3 * k + 5 < recursionLimit
 un:A.units + 16 * k + 200 < cLine
theorem vJ.mono {j k:Nat} {A:Around} (r:vJ k A) (h:j≤k):vJ j A:=⟨r.hd,by have:=r.dp;omega,by have:=r.un;omega⟩
theorem vJ.deeper {k:Nat} {A:Around} (r:vJ (k + 1) A) (env:Env):vJ k (A.deeper env):=
 ⟨r.hd,by have:=r.dp;show A.depth + 1 + 3 * k + 5 < _;omega,by have:=r.un;show A.units + 3 + 16 * k + 200 < _;omega⟩
theorem aL {A:Around} {C:Addr} {us:List Value} {kw:List (Str × Value)}:(A.under (.builtin "type.__call__" ⟨.ref C :: us,kw⟩)).depth=A.depth + 1:=by
 first | rfl | simp [Around.under,Code.weight,Code.isCreation,Code.isGuard,Code.isCaller,Code.frames,Code.isFrame,guardIds]
theorem aS {A:Around} {C:Addr} {us:List Value} {kw:List (Str × Value)}:(A.under (.builtin "type.__call__" ⟨.ref C :: us,kw⟩)).units=A.units + 1:=by
 first | rfl | simp [Around.under,Code.cUnits,Code.frames,Code.isFrame]
theorem vJ.make {k:Nat} {A:Around} (r:vJ (k + 1) A) (C:Addr) (us:List Value) (kw:List (Str × Value)):vJ k (A.under (.builtin "type.__call__" ⟨.ref C :: us,kw⟩)):=
 ⟨r.hd,by have:=r.dp;rw[aL];omega,by have:=r.un;rw[aS];omega⟩
theorem vJ.depth {k:Nat} {A:Around} (r:vJ k A):A.depth < recursionLimit:=by have:=r.dp;omega
theorem vJ.units {k:Nat} {A:Around} (r:vJ k A):A.units + 64 < cLine:=by have:=r.un;omega
noncomputable def YF:TA:=fun _ H Q=>Q [] H
noncomputable def G0 (ta:TE) (tr:TA):TA:=fun σ H Q=>ta σ H fun x H1=>tr σ H1 fun xs H2=>Q (x :: xs) H2
section
variable {X:Cx} {e:Expr} {es:List Expr} {te:TE} {t:TA} {pos:Pos}
theorem z5:PA X [] YF:=fun _ _ _ _ H Q I h=>Calls.spliced_nil ⟨[],H,I,.nil,h⟩
theorem z0 (ha:PE X e te) (hr:PA X es t) (hs:starEach (e :: es) X.env=(false,eval e X.env) :: starEach es X.env:=by rfl):PA X (e :: es) (G0 te t):=by
 intro pos pins s σ H Q I h
 rw[hs]
 show wpAny _ _ (spliced ((false,eval e X.env) :: backTo pos (starEach es X.env))) _ _ s
 refine Calls.spliced_cons (xl (ha pins s σ H _ I h) fun u s1 ⟨x,H1,I1,r1,q1⟩=>?_)
 exact xl (hr pos pins s1 σ H1 _ I1 q1) fun us s2 ⟨xs,H2,I2,r2,q2⟩=>⟨x :: xs,H2,I2,.cons r1 r2,q2⟩
noncomputable def BX (t:TA):TE:=fun σ H Q=>t σ H fun xs H1=>xs.length≤sizeLine∧∀p,H1 p=none→Q (.ref p) (upd H1 p (.tup xs))
noncomputable def Bo (t:TA):TE:=fun σ H Q=>t σ H fun xs H1=>xs.length≤sizeLine∧∀p,H1 p=none→Q (.ref p) (upd H1 p (.lst xs))
theorem Yg {x1} (h:PA X es t):PE X (.Tuple es x1 pos) (BX t):=by
 intro pins s σ H Q I hq
 refine wpAny_Tuple_spliced (xl (h pos pins s σ H _ I hq) fun us s1 ⟨xs,H1,I1,r,z,q⟩=>⟨by rw[←r.length];exact z,?_⟩)
 have hf:H1 s1.heap.objs.size=none:=I1.jc.fresh (Nat.le_refl _)
 refine⟨.ref s1.heap.objs.size,upd H1 s1.heap.objs.size (.tup xs),I1.laid (t':=s1.toks) (fun b u e=>Heap.get?_push_of_some _ e) (Nat.le_refl _) ?_,rfl,q _ hf⟩
 exact⟨z,us,r,⟨_,Heap.get?_push_size _ rfl,rfl,_,rfl⟩⟩
theorem Yy (h:PA X es t):PE X (.List es pos) (Bo t):=by
 intro pins s σ H Q I hq
 refine wpAny_List_spliced (xl (h pos pins s σ H _ I hq) fun us s1 ⟨xs,H1,I1,r,z,q⟩=>⟨by rw[←r.length];exact z,?_⟩)
 have hf:H1 s1.heap.objs.size=none:=I1.jc.fresh (Nat.le_refl _)
 refine⟨.ref s1.heap.objs.size,upd H1 s1.heap.objs.size (.lst xs),I1.laid (t':=s1.toks) (fun b u e=>Heap.get?_push_of_some _ e) (Nat.le_refl _) ?_,rfl,q _ hf⟩
 exact⟨z,us,0,r,Heap.get?_push_size _ rfl⟩
end
noncomputable abbrev Sp:=List V→Hp→VK→XK→Prop
noncomputable abbrev sQ:=List Env→Hp→Shared→XK→Value→Shared→Prop
structure ir (P:Program) (w:World) (K:PySem.W.Frag) (mg:Str→Option Value) (base:Heap) (A:Around) (outer:List Env) (s:Shared) (H:Hp):Prop where
 frames:A.frames=some outer
 mod:Mod K mg base
 bs:∀b o,base.get? b=some o→s.heap.get? b=some o∧H b=none
 JV:base.objs.size≤s.heap.objs.size
 uH:s.heap.FunFrames base outer
 WL:∀b∈ao outer,H b=none
 jc:pW P w H s.heap
 bare:AllBare s.gens
noncomputable def CE (outer:List Env) (P:Program) (w:World) (H:Hp) (s:Shared) (Q:VK) (u:Value) (s':Shared):Prop:=
 ∃v H',s'.os=s.os∧AllBare s'.gens∧Un (ao outer) [] H H' s.heap s'.heap∧pW P w H' s'.heap∧RelV v u∧Q v H'
noncomputable def CR (CX:sQ) (outer:List Env) (P:Program) (w:World) (H:Hp) (s:Shared) (Q:VK) (E:XK) (r:Result) (s':Shared):Prop:=
 match r with
 | .ok (.ret u)=>CE outer P w H s Q u s'
 | .ok _=>False
 | .error e=>CX outer H s E e s'
structure qi (P:Program) (w:World) (K:PySem.W.Frag) (mg:Str→Option Value) (base:Heap) (CX:sQ) (k:Nat) (f:Addr) (fd:FuncData) (ps:List Str) (sp:Sp):Prop where
 len:∀vs H Q E,sp vs H Q E→vs.length=ps.length
 run:∀(A:Around) (outer:List Env) (s:Shared) (H:Hp) (args:Args) (us:List Value) (vs:List V) (Q:VK) (E:XK),vJ k A→ir P w K mg base A outer s H→BindsTo s fd args (ps.zip us)→Vals vs us→sp vs H Q E→
  codeAny (model P w) A (.call (.ref f) args) (CR CX outer P w H s Q E) s
theorem qi.mono {P:Program} {w:World} {K:PySem.W.Frag} {mg:Str→Option Value} {base:Heap} {CX:sQ} {j k:Nat} {f:Addr} {fd:FuncData} {ps:List Str} {sp:Sp} (F:qi P w K mg base CX j f fd ps sp) (h:j≤k) :
  qi P w K mg base CX k f fd ps sp:=⟨F.len,fun A outer s H args us vs Q E hr=>F.run A outer s H args us vs Q E (hr.mono h)⟩
theorem ir.make {P:Program} {w:World} {K:PySem.W.Frag} {mg:Str→Option Value} {base:Heap} {A:Around} {outer:List Env} {s:Shared} {H:Hp} (e:ir P w K mg base A outer s H) (C:Addr) (us:List Value) (kw:List (Str × Value)) :
  ir P w K mg base (A.under (.builtin "type.__call__" ⟨.ref C :: us,kw⟩)) outer s H:=⟨by first | exact e.frames | (simpa [Around.under,Code.envs,Code.isFrame,pushEnvs] using e.frames),e.mod,e.bs,e.JV,e.uH,e.WL,e.jc,e.bare⟩
section
variable {X:Cx} {pins:List (Addr × Obj)} {σ:St} {H:Hp} {s s':Shared}
theorem Inv.WC (I:Inv X pins σ H s):ir X.prog X.w X.K X.mg X.base X.A X.stack s H:=
 ⟨I.ok.frames,I.ok.mod,I.bs,Nat.le_trans I.ok.JV I.sz,I.stack,I.cG,I.jc,I.bare⟩
theorem Inv.after {Q:VK} {u:Value} (I:Inv X pins σ H s) (h:CE X.stack X.prog X.w H s Q u s'):EP X pins σ Q u s':=by
 obtain⟨v,H',os,bare,un,jc,r,q⟩:=h
 obtain⟨hh,g,d,t,os'⟩:=s'
 obtain rfl:os'=s.os:=os
 exact⟨v,H',I.call (h':=hh) (g':=g) (d':=d) (t':=t) (ch:=[]) un jc bare (fun b z=>absurd z (by simp)),r,q⟩
end
noncomputable def Wi (sp:Sp) (dvs:List V) (E:XK) (t:TA):TE:=fun σ H Q=>t σ H fun vs H1=>sp (vs ++ dvs) H1 Q E
noncomputable def B2 (C:Addr) (m:Str) (sp:Sp) (dvs:List V) (E:XK) (ta:TE) (t:TA):TE:=fun σ H Q=>ta σ H fun x H1=>∃a dx fs,x=.ref a∧H1 a=some (.ins C dx fs)∧fs.lookup m=none∧
 t σ H1 fun vs H2=>sp (x :: (vs ++ dvs)) H2 Q E
noncomputable def Wa (C:Addr) (sp:Sp) (dvs:List V) (E:XK) (t:TA):TE:=fun σ H Q=>t σ H fun vs H1=>∀x dx,H1 x=none→H1 dx=none→dx≠x→
 sp (.ref x :: (vs ++ dvs)) (upd (upd H1 dx (.own x)) x (.ins C dx [])) (fun v H2=>v=.non∧Q (.ref x) H2) E
noncomputable def Binds (K:PySem.W.Frag) (fd:FuncData) (ps:List Str) (ds:List Value):Prop:=
 ∀(s:Shared) (us:List Value),K.In s.heap→(us ++ ds).length=ps.length→BindsTo s fd ⟨us,[]⟩ (ps.zip (us ++ ds))
theorem Binds.all {K:PySem.W.Frag} {fd:FuncData} {ps:List Str} (h:∀us:List Value,us.length=ps.length→bindArgs fd ⟨us,[]⟩=pure (ps.zip us)):Binds K fd ps []:=fun s us _ hl=>by
 rw[List.append_nil] at hl ⊢
 exact .of_eq (h us hl)
noncomputable def Passes (CX:sQ) (X:Cx) (E:XK):Prop:=∀(pins:List (Addr × Obj)) (σ:St) (H:Hp) (s:Shared) (e:Value) (s':Shared),Inv X pins σ H s→CX X.stack H s E e s'→X.xe e s'
section
variable {X:Cx} {CX:sQ} {k:Nat} {f C:Addr} {fd:FuncData} {ps:List Str} {sp:Sp} {dvs:List V} {ds:List Value} {E:XK} {x m:Str} {p pos apos:Pos} {e o:Expr} {es:List Expr} {ta:TE} {t:TA}
theorem oB {pins:List (Addr × Obj)} {σ:St} {H:Hp} {s:Shared} {Q:VK} {us:List Value} {vs:List V} (F:qi X.prog X.w X.K X.mg X.base CX k f fd ps sp) (hr:vJ k X.A) (hb:Binds X.K fd ps ds) (hd:Vals dvs ds) (hx:Passes CX X E)
  (I:Inv X pins σ H s) (r:Vals vs us) (h:sp (vs ++ dvs) H Q E):wpAny (model X.prog X.w) X.A (call (.ref f) us) (EP X pins σ Q) X.xe s:=by
 have r2:Vals (vs ++ dvs) (us ++ ds):=r.append hd
 have hl:(us ++ ds).length=ps.length:=by rw[←r2.length];exact F.len _ _ _ _ h
 refine wpAny_call (codeAny_mono (F.run X.A X.stack s H ⟨us,[]⟩ (us ++ ds) (vs ++ dvs) Q E hr I.WC (hb s us I.pY hl) r2 h) fun r s' hq=>?_)
 cases r with
 | error e=>exact hx pins σ H s e s' I hq
 | ok fl=>
  cases fl with
  | ret u=>exact I.after hq
  | next=>exact False.elim hq
  | brk=>exact False.elim hq
  | cont=>exact False.elim hq
theorem qm (F:qi X.prog X.w X.K X.mg X.base CX k f fd ps sp) (hr:vJ k X.A) (hg:Gl X x) (hm:X.mg x=some (.ref f)) (hk:PySem.W.keepIn X.K (.ref f)=true) (hb:Binds X.K fd ps ds) (hd:Vals dvs ds) (hx:Passes CX X E)
  (ha:PA X (e :: es) t) (hdb:(x == ("__debug__" : Str))=false:=by decide) (he:starEach (e :: es) X.env=(false,eval e X.env) :: starEach es X.env:=by rfl) (hpl:(backTo pos (starEach es X.env)).any (·.1)=false:=by rfl) :
  PE X (.Call (.Name x p) (e :: es) [] pos) (Wi sp dvs E t):=by
 intro pins s σ H Q I h
 refine wpAny_Call_Name_kw (fO I hg hm ?_ hdb)
 refine PySem.W.callWith_K (h₀:=X.base) I.ok.mod.Xf hk (xl (ha pos pins s σ H _ I h) fun us s1 ⟨vs,H1,I1,r,q⟩=>⟨I1.pY,?_⟩) he hpl
 exact oB F hr hb hd hx I1 r q
structure Mk (K:PySem.W.Frag) (C f:Addr):Prop where
 makes:PySem.W.makesIn K C=true
 init:PySem.W.findIn K (.ref C) "__init__" = some (some (.ref f))
 fn:PySem.W.isFn K (.ref f)=true
 kp:PySem.W.keepIn K (.ref C)=true
theorem eG {pins:List (Addr × Obj)} {σ:St} {H:Hp} {s:Shared} {Q:VK} {us:List Value} {vs:List V} (M:Mk X.K C f) (F:qi X.prog X.w X.K X.mg X.base CX k f fd ps sp) (hr:vJ (k + 1) X.A) (hb:Binds X.K fd ps ds) (hd:Vals dvs ds)
  (hx:Passes CX X E) (I:Inv X pins σ H s) (r:Vals vs us)
  (h:∀x dx,H x=none→H dx=none→dx≠x→sp (.ref x :: (vs ++ dvs)) (upd (upd H dx (.own x)) x (.ins C dx [])) (fun v H2=>v=.non∧Q (.ref x) H2) E) :
  wpAny (model X.prog X.w) X.A (call (.ref C) us) (EP X pins σ Q) X.xe s:=by
 have hq:=h (s.heap.objs.size + 1) s.heap.objs.size (I.jc.fresh (Nat.le_succ _)) (I.jc.fresh (Nat.le_refl _)) (Nat.ne_of_lt (Nat.lt_succ_self _))
 have I2:=Inv.made (C:=C) I
 have r2:Vals (V.ref (s.heap.objs.size + 1) :: (vs ++ dvs)) (Value.ref (s.heap.objs.size + 1) :: (us ++ ds)):=.cons rfl (r.append hd)
 have hl:(Value.ref (s.heap.objs.size + 1) :: us ++ ds).length=ps.length:=by
  have e:=r2.length
  rw[F.len _ _ _ _ hq] at e
  exact e.symm
 refine wpAny_call (Xn (f:=f) I.pY M.makes M.init (beq_iff_eq.mp M.fn) (codeAny_mono (F.run _ X.stack _ _ ⟨Value.ref (s.heap.objs.size + 1) :: us,[]⟩ (Value.ref (s.heap.objs.size + 1) :: (us ++ ds)) _ _ E (hr.make C us [])
  (I2.WC.make C us []) (hb _ (Value.ref (s.heap.objs.size + 1) :: us) I2.pY hl) r2 hq) fun r s' hq'=>?_))
 cases r with
 | error e=>exact hx pins σ _ _ e s' I2 hq'
 | ok fl=>
  cases fl with
  | ret u=>
   obtain⟨v,H',I3,rv,ev,q3⟩:=I2.after hq'
   subst ev
   exact⟨rv,⟨V.ref (s.heap.objs.size + 1),H',I3,rfl,q3⟩⟩
  | next=>exact False.elim hq'
  | brk=>exact False.elim hq'
  | cont=>exact False.elim hq'
theorem xr (M:Mk X.K C f) (F:qi X.prog X.w X.K X.mg X.base CX k f fd ps sp) (hr:vJ (k + 1) X.A) (hg:Gl X x) (hm:X.mg x=some (.ref C)) (hb:Binds X.K fd ps ds) (hd:Vals dvs ds) (hx:Passes CX X E)
  (ha:PA X (e :: es) t) (hdb:(x == ("__debug__" : Str))=false:=by decide) (he:starEach (e :: es) X.env=(false,eval e X.env) :: starEach es X.env:=by rfl) (hpl:(backTo pos (starEach es X.env)).any (·.1)=false:=by rfl) :
  PE X (.Call (.Name x p) (e :: es) [] pos) (Wa C sp dvs E t):=by
 intro pins s σ H Q I h
 refine wpAny_Call_Name_kw (fO I hg hm ?_ hdb)
 refine PySem.W.callWith_K (h₀:=X.base) I.ok.mod.Xf M.kp (xl (ha pos pins s σ H _ I h) fun us s1 ⟨vs,H1,I1,r,q⟩=>⟨I1.pY,?_⟩) he hpl
 exact eG M F hr hb hd hx I1 r q
theorem XT (M:Mk X.K C f) (F:qi X.prog X.w X.K X.mg X.base CX k f fd ps sp) (hr:vJ (k + 1) X.A) (hg:Gl X x) (hm:X.mg x=some (.ref C)) (hb:Binds X.K fd ps ds) (hd:Vals dvs ds) (hx:Passes CX X E)
  (hdb:(x == ("__debug__" : Str))=false:=by decide):PE X (.Call (.Name x p) [] [] pos) (Wa C sp dvs E YF):=by
 intro pins s σ H Q I h
 refine wpAny_Call_Name_kw (fO I hg hm ?_ hdb)
 exact PySem.W.callWith_K0 I.pY M.kp (eG (us:=[]) M F hr hb hd hx I .nil h)
end
noncomputable def PK (X:Cx) (kws:List Keyword) (t:TA):Prop:=
 ∀(pos:Pos) (pins:List (Addr × Obj)) (s:Shared) (σ:St) (H:Hp) (Q:List V→Hp→Prop),Inv X pins σ H s→t σ H Q→wpAny (model X.prog X.w) X.A (evalAll ((backToKw pos (keywordEach kws X.env)).map (·.2))) (AP X pins σ Q) X.xe s
section
variable {X:Cx} {CX:sQ} {k:Nat} {f C:Addr} {fd:FuncData} {ps ks:List Str} {sp:Sp} {E:XK} {x m:Str} {p pos apos kpos:Pos} {e o:Expr} {es:List Expr} {kws:List Keyword} {te ta:TE} {t tk:TA} {nm:Option Str}
structure HZ (K:PySem.W.Frag) (fd:FuncData) (ps ks:List Str) (g:List Value→List Value→List Value) (gV:List V→List V→List V):Prop where
 to:∀(s:Shared) (us ws:List Value),K.In s.heap→(g us ws).length=ps.length→BindsTo s fd ⟨us,ks.zip ws⟩ (ps.zip (g us ws))
 rel:∀{vs:List V} {us:List Value} {zs:List V} {ws:List Value},Vals vs us→Vals zs ws→Vals (gV vs zs) (g us ws)
noncomputable def Bf (sp:Sp) (gV:List V→List V→List V) (E:XK) (t tk:TA):TE:=fun σ H Q=>t σ H fun vs H1=>tk σ H1 fun zs H2=>sp (gV vs zs) H2 Q E
variable {g:List Value→List Value→List Value} {gV:List V→List V→List V}
end
structure qo (N P:List Str) (sc:Scope):Prop where
 kind:sc.kind=.function
 co:sc.isCoroutine=false
 gen:sc.isGenerator=false
 nd:N.Nodup
 pre:N.take P.length=P
 par:∀x∈P,sc.names.lookup x=some .local∨sc.names.lookup x=some .cell
 W9:∀y∈sc.names,y.2≠.free
theorem tQ {kindOf:Str→Option NameKind} {x:Str}:∀{binds:List (Str × Value)} {m:Str→Option Value},(∀v,(x,v)∉binds)→bindL kindOf binds m x=m x
 | [],_,_=>rfl
 | (n,v) :: r,m,h=>by
  unfold bindL
  rw[tQ fun w hw=>h w (List.mem_cons_of_mem _ hw)]
  split
  ·have:x≠n:=by rintro rfl;exact h v List.mem_cons_self
   simp [this]
  ·rfl
theorem tu {kindOf:Str→Option NameKind} {x:Str}:∀{binds:List (Str × Value)} {m:Str→Option Value},(∀v,(x,v)∉binds)→bindC kindOf binds m x=m x
 | [],_,_=>rfl
 | (n,v) :: r,m,h=>by
  unfold bindC
  rw[tu fun w hw=>h w (List.mem_cons_of_mem _ hw)]
  split
  ·rfl
  ·have:x≠n:=by rintro rfl;exact h v List.mem_cons_self
   simp [this]
theorem tZ {kindOf:Str→Option NameKind} {x:Str} {v:Value}:∀{P:List Str} {vs:List Value} {i:Nat} {m:Str→Option Value},P.Nodup→P[i]?=some x→vs[i]?=some v→kindOf x=some .local→
  bindL kindOf (P.zip vs) m x=some v
 | [],_,_,_,_,h,_,_=>by simp at h
 | _ :: _,[],_,_,_,_,h,_=>by simp at h
 | p :: P,w :: vs,0,m,nd,h1,h2,hk=>by
  simp at h1 h2;subst h1;subst h2
  show bindL kindOf ((p,w) :: P.zip vs) m p=_
  unfold bindL
  rw[tQ fun v hv=>(List.nodup_cons.mp nd).1 (List.of_mem_zip hv).1,if_pos hk]
  simp
 | p :: P,w :: vs,i + 1,m,nd,h1,h2,hk=>by
  show bindL kindOf ((p,w) :: P.zip vs) m x=_
  unfold bindL
  exact tZ (i:=i) (List.nodup_cons.mp nd).2 (by simpa using h1) (by simpa using h2) hk
theorem tm {kindOf:Str→Option NameKind} {x:Str} {v:Value}:∀{P:List Str} {vs:List Value} {i:Nat} {m:Str→Option Value},P.Nodup→P[i]?=some x→vs[i]?=some v→kindOf x≠some .local→
  bindC kindOf (P.zip vs) m x=some v
 | [],_,_,_,_,h,_,_=>by simp at h
 | _ :: _,[],_,_,_,_,h,_=>by simp at h
 | p :: P,w :: vs,0,m,nd,h1,h2,hk=>by
  simp at h1 h2;subst h1;subst h2
  show bindC kindOf ((p,w) :: P.zip vs) m p=_
  unfold bindC
  rw[tu fun v hv=>(List.nodup_cons.mp nd).1 (List.of_mem_zip hv).1,if_neg hk]
  simp
 | p :: P,w :: vs,i + 1,m,nd,h1,h2,hk=>by
  show bindC kindOf ((p,w) :: P.zip vs) m x=_
  unfold bindC
  exact tm (i:=i) (List.nodup_cons.mp nd).2 (by simpa using h1) (by simpa using h2) hk
noncomputable def start (N:List Str) (vs:List V):St:=vs.map some ++ List.replicate (N.length - vs.length) none
noncomputable def nN (CX:sQ) (P:Program) (w:World) (K:PySem.W.Frag) (mg:Str→Option Value) (base:Heap) (N:List Str) (qual:Str) (scope:Scope) (f:Addr) (cd:Value) (A:Around) (outer:List Env) (s:Shared) (H:Hp) (E:XK):Cx where
 prog:=P
 w:=w
 K:=K
 mg:=mg
 base:=base
 A:=A.deeper (envOfC qual scope s.heap.objs.size f cd)
 N:=N
 s₀:=s
 H₀:=H
 env:=envOfC qual scope s.heap.objs.size f cd
 outer:=outer
 stack:=envOfC qual scope s.heap.objs.size f cd :: outer
 ex:=[]
 calm:=true
 fn:=fun _=>true
 pn:=[]
 xe:=fun e s'=>wpAny (model P w) (A.deeper (envOfC qual scope s.heap.objs.size f cd)) (leaving (envOfC qual scope s.heap.objs.size f cd) e) (fun _ s''=>CX outer H s E e s'') (fun e' s''=>CX outer H s E e' s'') s'
theorem iQ {sc:Scope} {n:Nat} {x:Str} (h:sc.names.lookup x=some .cell):∃c,(cellsFrom n sc.names []).lookup x=some c:=by
 have q:=PySem.W.cellsFrom_some sc.names n [] (.inl h)
 exact Option.isSome_iff_exists.mp q
theorem QT {CX:sQ} {P:Program} {w:World} {K:PySem.W.Frag} {mg:Str→Option Value} {base:Heap} {N ps:List Str} {qual:Str} {scope:Scope} {f:Addr} {cd:Value} {A:Around} {outer:List Env} {s s1:Shared} {H:Hp} {E:XK} {us:List Value} {vs:List V}
  (S:qo N ps scope) (hd:A.handled=none) (e0:ir P w K mg base A outer s H) (hl:vs.length=ps.length) (r:Vals vs us)
  (x:InCallC s s.heap.objs.size (bindL (envOfC qual scope s.heap.objs.size f cd).kindOf (ps.zip us) fun _=>none) (cellsFrom (s.heap.objs.size + 1) scope.names []) (bindC (envOfC qual scope s.heap.objs.size f cd).kindOf (ps.zip us) fun _=>none) s1) :
  Inv (nN CX P w K mg base N qual scope f cd A outer s H E) [] (start N vs) H s1:=by
 have hpl:ps.length≤N.length:=by have:=congrArg List.length S.pre;rw[List.length_take] at this;omega
 obtain⟨h1,tk,rfl,hk⟩:=x.done
 have noA:∀b:Addr,b∉(nN CX P w K mg base N qual scope f cd A outer s H E).ex:=fun b z=>absurd (show b∈([]:List Addr) from z) (by simp)
 refine⟨⟨e0.mod,S.kind,rfl,rfl,Nat.le_refl _,fun y z c h1 h2=>?_,fun y hy=>?_,fun y c _ h=>?_,fun _=>hd,Around.frames_deeper e0.frames,.inr ⟨rfl,rfl⟩,fun b z=>absurd z (noA b),e0.bs,e0.JV,fun b _ _=>noA b,fun b z=>absurd z (noA b),e0.uH,e0.WL⟩,
  rfl,e0.bare,Un.kept hk,⟨_,x.toInCall.ns,fun i y v h1 h2 h3=>?_⟩,fun y c h=>⟨_,x.cell y c h⟩,e0.jc.fresh (Nat.le_refl _),fun y c h=>?_,fun p hp=>absurd (show p∈([]:List (Addr × Obj)) from hp) (by simp),e0.jc.kept hk,?_⟩
 ·exact name_of_addr x.apart (PySem.mem_of_lookup h1) (PySem.mem_of_lookup h2)
 ·have hy:scope.names.lookup y=some .cell∨scope.names.lookup y=some .free:=hy
  rcases hy with hy | hy
  ·exact iQ hy
  ·exact absurd rfl (S.W9 _ (PySem.mem_of_lookup hy))
 ·exact Nat.le_of_lt (x.above y c (PySem.mem_of_lookup h))
 ·have hi:i < vs.length:=by
   unfold start at h2
   by_cases hi:i < vs.length
   ·exact hi
   ·rw[List.getElem?_append_right (by simpa using hi)] at h2
    rw[List.getElem?_replicate] at h2
    split at h2<;>cases h2
  have ha:vs[i]?=some v:=by
   unfold start at h2
   rw[List.getElem?_append_left (by simpa using hi),List.getElem?_map] at h2
   cases e:vs[i]? with
   | none=>rw[e] at h2;cases h2
   | some a=>rw[e] at h2;cases h2;rfl
  obtain⟨u,hu,rv⟩:=r.get ha
  have hp:ps[i]?=some y:=by
   rw[←S.pre,List.getElem?_take_of_lt (by omega)];exact h1
  have ndP:ps.Nodup:=by rw[←S.pre];exact S.nd.sublist (List.take_sublist _ _)
  refine⟨u,rv,?_⟩
  rcases S.par y (List.mem_of_getElem? hp) with k | k
  ·exact .inl ⟨k,tZ ndP hp hu k⟩
  ·obtain⟨c,e⟩:=iQ (n:=s.heap.objs.size + 1) k
   refine .inr ⟨.inl k,c,e,?_⟩
   have q:=x.cell y c e
   rw[tm ndP hp hu (by show scope.names.lookup y≠_;rw[k];decide)] at q
   exact q
 ·exact e0.jc.fresh (Nat.le_of_lt (x.above y c (PySem.mem_of_lookup h)))
 ·unfold start
  show _=N.length
  rw[List.length_append,List.length_map,List.length_replicate]
  omega
theorem Wh {CX:sQ} {P:Program} {w:World} {K:PySem.W.Frag} {mg:Str→Option Value} {base:Heap} {k:Nat} {f:Addr} {name qual:Str} {params:Arguments} {body:List Stmt} {scope:Scope} {dV kV doc pm cdv ct oc:Value} {an od:Option Addr}
  {osl:Array (Option Value)} {N ps:List Str} {sp:Sp} (lk:K.lookup f=some ⟨oc,od,.func (PySem.W.fnOf name qual params body scope dV kV doc pm an cdv ct),osl⟩) (hcd:PySem.W.codeIn K cdv qual=true) (S:qo N ps scope)
  (len:∀vs H Q E,sp vs H Q E→vs.length=ps.length)
  (hbody:∀(A:Around) (outer:List Env) (s:Shared) (H:Hp) (vs:List V) (Q:VK) (E:XK),vJ k (A.deeper (envOfC qual scope s.heap.objs.size f cdv))→sp vs H Q E→
   ∃t,ZV (nN CX P w K mg base N qual scope f cdv A outer s H E) body t∧t { nx:=fun _ H'=>Q .non H',rt:=Q } (start N vs) H) :
  qi P w K mg base CX (k + 1) f (PySem.W.fnOf name qual params body scope dV kV doc pm an cdv ct) ps sp:=by
 refine⟨len,fun A outer s H args us vs Q E hr e0 hb r hsp=>?_⟩
 have hl:=len _ _ _ _ hsp
 have KX:K.In s.heap:=e0.mod.Xf.keeps fun b o e=>(e0.bs b o e).1
 have lim:s.heap.NoLimit:=e0.mod.nolimit.keeps fun b o e=>(e0.bs b o e).1
 have hkind:∀y∈ps.zip us,scope.names.lookup y.1=some .local∨(scope.names.lookup y.1=some .cell∧((cellsFrom (s.heap.objs.size + 1) scope.names []).lookup y.1).isSome=true):=fun ⟨n,v⟩ hy=>by
  rcases S.par n (List.of_mem_zip hy).1 with q | q
  ·exact .inl q
  ·exact .inr ⟨q,PySem.W.cellsFrom_some _ _ _ (.inl q)⟩
 refine codeAny_call_function hr.depth (KX _ _ lk) rfl S.co S.gen rfl (PySem.W.codeRec_of KX hcd) (hb _ _ _ _ ?_)
 refine wpAny_newFunctionEnv_cells S.kind hkind fun env he s1 x=>?_
 subst he
 refine⟨lim.keeps x.toInCall.keep,codeAny_func ?_⟩
 obtain⟨t,ht,hq⟩:=hbody A outer s H vs Q E (hr.deeper _) hsp
 have I:Inv (nN CX P w K mg base N qual scope f cdv A outer s H E) [] (start N vs) H s1:=QT S hr.hd e0 hl r x
 refine wpAny_mono (ht [] s1 (start N vs) H _ I hq) (fun fl s' hs=>?_) fun e s' hs=>hs
 have fin:∀{σ':St} {H':Hp} {v:V} {u:Value},Inv (nN CX P w K mg base N qual scope f cdv A outer s H E) [] σ' H' s'→RelV v u→Q v H'→CE outer P w H s Q u s':=
  fun {σ' H' v u} J rv q=>⟨v,H',J.os,J.bare,J.base,J.jc,rv,q⟩
 cases fl with
 | ret u=>
  obtain⟨v,σ',H',J,rv,q⟩:=hs
  exact fin J rv q
 | next=>
  obtain⟨σ',H',J,q⟩:=hs
  exact fin (v:=V.non) (u:=Value.none) J rfl q
 | brk=>
  obtain⟨_,_,_,q⟩:=hs
  exact False.elim q
 | cont=>
  obtain⟨_,_,_,q⟩:=hs
  exact False.elim q
end L2
namespace L2
open PySem PySem.Spec PyProof.Rows
section
variable {X:Cx} {x:Str} {p pos:Pos} {e:Expr} {es:List Expr} {t:TA} {id T:String} {r:List V→Hp→VK→Prop}
noncomputable def BE (r:List V→Hp→VK→Prop) (t:TA):TE:=fun σ H Q=>t σ H fun vs H1=>r vs H1 Q
theorem qC (hc:vC X (.builtin id) r) (hg:Gl X x) (hm:X.mg x=none) (hv:bootBuiltins x=some (.builtin id)) (ha:PA X (e :: es) t) (hn:x≠"__name__":=by decide) (hdb:(x == ("__debug__" : Str))=false:=by decide)
  (he:starEach (e :: es) X.env=(false,eval e X.env) :: starEach es X.env:=by rfl) (hpl:(backTo pos (starEach es X.env)).any (·.1)=false:=by rfl):PE X (.Call (.Name x p) (e :: es) [] pos) (BE r t):=by
 intro pins s σ H Q I h
 refine wpAny_Call_Name_kw (cO I hg hm hv ?_ hn hdb)
 exact PyProof.Rows.callWith_builtin1 (xl (ha pos pins s σ H _ I h) fun us s1 ⟨vs,H1,I1,r1,q1⟩=>hc pins s1 σ H1 vs us Q I1 r1 q1) he hpl
theorem jn (hc:vC X (.type T) r) (hg:Gl X x) (hm:X.mg x=none) (hv:bootBuiltins x=some (.type T)) (ha:PA X (e :: es) t) (hn:x≠"__name__":=by decide) (hdb:(x == ("__debug__" : Str))=false:=by decide)
  (he:starEach (e :: es) X.env=(false,eval e X.env) :: starEach es X.env:=by rfl) (hpl:(backTo pos (starEach es X.env)).any (·.1)=false:=by rfl):PE X (.Call (.Name x p) (e :: es) [] pos) (BE r t):=by
 intro pins s σ H Q I h
 refine wpAny_Call_Name_kw (cO I hg hm hv ?_ hn hdb)
 exact PyProof.Rows.callWith_type1 (xl (ha pos pins s σ H _ I h) fun us s1 ⟨vs,H1,I1,r1,q1⟩=>hc pins s1 σ H1 vs us Q I1 r1 q1) he hpl
end
end L2
namespace HT
open PySem PyProof.Rows
noncomputable def lexLt:List Int→List Int→Bool
 | [],[]=>false
 | [],_ :: _=>true
 | _ :: _,[]=>false
 | x :: xs,y :: ys=>if x=y then lexLt xs ys else decide (x < y)
section
open PySem.SeqAt
open PySem.AutoSeq1 (wpAny_loadPart')
open PySem.MeetsSeq PySem.MeetsSeq2 PySem.MeetsSeq3
end
section
variable {prog:Program} {w:World} {A:Around} {E:Value→Shared→Prop} {s:Shared}
noncomputable def sJ (n d:Nat):Option Int→Nat
 | none=>d
 | some v=>if v < 0 then (v + (n:Int)).toNat else min v.toNat n
theorem eB (n d:Nat):sJ n d none=d:=rfl
theorem bE (n d k:Nat):sJ n d (some (k:Int))=min k n:=by
 show (if (k:Int) < 0 then ((k:Int) + (n:Int)).toNat else min (k:Int).toNat n)=min k n
 rw[if_neg (by omega),Int.toNat_natCast]
end
end HT
namespace L2
open PySem PySem.Spec PyProof.Rows
noncomputable abbrev TO:=St→Hp→(Option Int→Hp→Prop)→Prop
noncomputable def PO (X:Cx) (e:Option Expr) (t:TO):Prop:=
 ∀(pins:List (Addr × Obj)) (s:Shared) (σ:St) (H:Hp) (Q:Option Int→Hp→Prop),Inv X pins σ H s→t σ H Q→
  wpAny (model X.prog X.w) X.A (evalPart e X.env) (fun u s'=>∃o H',Inv X pins σ H' s'∧IsPart u o∧Q o H') X.xe s
noncomputable def VI:TO:=fun _ H Q=>Q none H
noncomputable def G4 (t:TE):TO:=fun σ H Q=>t σ H fun x H1=>∃i,x=.int i∧Q (some i) H1
section
variable {X:Cx} {e:Expr} {te:TE} {lo hi:Option Expr} {tl th:TO} {pos p2:Pos}
theorem gP:PO X none VI:=by
 intro pins s σ H Q I h
 rw[evalPart_none]
 exact wpAny_pure ⟨none,H,I,.none,h⟩
theorem xi (h:PE X e te):PO X (some e) (G4 te):=by
 intro pins s σ H Q I hw
 rw[evalPart_some]
 refine xl (h pins s σ H _ I hw) fun u s1 ⟨x,H1,I1,r1,q1⟩=>?_
 obtain⟨i,rfl,q⟩:=q1
 obtain⟨t,rfl⟩:=r1
 exact⟨some i,H1,I1,.int i t,q⟩
noncomputable def WK (X:Cx) (r:V→Option Int→Option Int→Hp→VK→Prop):Prop:=
 ∀(pins:List (Addr × Obj)) (s:Shared) (σ:St) (H:Hp) (x:V) (v vl vu:Value) (lo hi:Option Int) (sl:Addr) (Q:VK),Inv X pins σ H s→RelV x v→s.heap.IsSliceOf sl vl vu .none→IsPart vl lo→IsPart vu hi→r x lo hi H Q→
  ∃T id,typeLookup (.type T) "__getitem__" = pure (some (.builtin id))∧s.TypeIs v T∧wpAny (model X.prog X.w) X.A (getItem v (.ref sl)) (EP X pins σ Q) X.xe s
noncomputable def P0 (r:V→Option Int→Option Int→Hp→VK→Prop) (te:TE) (tl th:TO):TE:=fun σ H Q=>te σ H fun x H1=>tl σ H1 fun l H2=>th σ H2 fun u H3=>r x l u H3 Q
theorem kT {r:V→Option Int→Option Int→Hp→VK→Prop} (hr:WK X r) (he:PE X e te) (hl:PO X lo tl) (hu:PO X hi th):PE X (.Subscript e (.Slice lo hi none p2) pos) (P0 r te tl th):=by
 intro pins s σ H Q I h
 refine Subscript_ (xl (he pins s σ H _ I h) fun v s1 ⟨x,H1,I1,r1,q1⟩=>?_)
 refine wpAny_Slice (xl (hl pins s1 σ H1 _ I1 q1) fun vl s2 ⟨l,H2,I2,pl,q2⟩=>xl (hu pins s2 σ H2 _ I2 q2) fun vu s3 ⟨u,H3,I3,pu,q3⟩=>?_)
 rw[evalPart_none]
 refine wpAny_pure ?_
 have I4:Inv X pins σ H3 { s3 with heap:=s3.heap.push { cls:=.type "slice",data:=.fields #[vl,vu,.none] } }:=I3.kept (t':=s3.toks) fun b ob q=>Heap.get?_push_of_some _ q
 obtain⟨T,id,hT,ht,hg⟩:=hr pins { s3 with heap:=s3.heap.push { cls:=.type "slice",data:=.fields #[vl,vu,.none] } } σ H3 x v vl vu l u s3.heap.objs.size Q I4 r1 (Heap.IsSliceOf.new ..) pl pu q3
 show wpAny (model X.prog X.w) X.A (subscriptTail e (.Slice lo hi none p2) v (.ref s3.heap.objs.size)) (EP X pins σ Q) X.xe { s3 with heap:=s3.heap.push { cls:=.type "slice",data:=.fields #[vl,vu,.none] } }
 exact tail_any (ops:=[.ref s3.heap.objs.size,v]) ht hT hg (by with_unfolding_all rfl)
noncomputable def g6 (xs:List V) (lo hi:Option Int):List V:=(xs.drop (HT.sJ xs.length 0 lo)).take (HT.sJ xs.length xs.length hi - HT.sJ xs.length 0 lo)
theorem iG (xs:List V) (lo hi:Option Int):(g6 xs lo hi).length≤xs.length:=by
 unfold g6
 rw[List.length_take,List.length_drop]
 omega
noncomputable def PQ (K:PySem.W.Frag):V→Option Int→Option Int→Hp→VK→Prop:=fun x lo hi H Q=>∃a xs,x=.ref a∧yy K H a xs∧
 ¬(HT.sJ xs.length 0 lo=0∧HT.sJ xs.length xs.length hi=xs.length)∧∀p,H p=none→Q (.ref p) (upd H p (.tup (g6 xs lo hi)))
noncomputable def Pe (K:PySem.W.Frag):R2:=fun x y H Q=>∃a b ns ms,x=.ref a∧y=.ref b∧yy K H a (ns.map V.int)∧yy K H b (ms.map V.int)∧Q (.bl (HT.lexLt ns ms)) H
noncomputable def BD (K:PySem.W.Frag):R2:=fun x y H Q=>∃a b xs ys,x=.ref a∧y=.ref b∧yy K H a xs∧yy K H b ys∧xs≠[]∧xs.length + ys.length≤sizeLine∧
 (ys=[]→Q (.ref a) H)∧(ys≠[]→∀p,H p=none→Q (.ref p) (upd H p (.tup (xs ++ ys))))
end
end L2
namespace L2
open PySem PySem.Spec PyProof.Rows
noncomputable def Vf (n:Nat) (i:Int):Option Nat:=if 0≤i then (if i < n then some i.toNat else none) else if -(n:Int)≤i then some (i + n).toNat else none
noncomputable def sG {α:Type} (xs:List α) (i:Int):Option α:=(Vf xs.length i).bind fun j=>xs[j]?
theorem Vm {n:Nat} {i:Int} {j:Nat} (h:Vf n i=some j):seqIndex? i n=some j∧j < n∧-(n:Int)≤i∧i < n:=by
 unfold Vf at h
 by_cases h0:0≤i
 ·rw[if_pos h0] at h
  by_cases h1:i < n
  ·rw[if_pos h1] at h
   have e:i.toNat=j:=Option.some.inj h
   exact⟨by rw[seqIndex_of h0 h1,e],by omega,by omega,h1⟩
  ·rw[if_neg h1] at h;cases h
 ·rw[if_neg h0] at h
  by_cases h1:-(n:Int)≤i
  ·rw[if_pos h1] at h
   have e:(i + n).toNat=j:=Option.some.inj h
   exact⟨by rw[seqIndex_neg (by omega) h1,e],by omega,h1,by omega⟩
  ·rw[if_neg h1] at h;cases h
theorem nF {α:Type} {xs:List α} {i:Int} {v:α} (h:sG xs i=some v):∃j,seqIndex? i xs.length=some j∧xs[j]?=some v∧j < xs.length∧-(xs.length:Int)≤i∧i < xs.length:=by
 unfold sG at h
 cases e:Vf xs.length i with
 | none=>rw[e] at h;cases h
 | some j=>
  rw[e] at h
  obtain⟨h1,h2,h3,h4⟩:=Vm e
  exact⟨j,h1,h,h2,h3,h4⟩
theorem nM {α:Type} {xs:List α} {j:Nat} {v:α} (h:xs[j]?=some v):sG xs (j:Int)=some v:=by
 have hj:j < xs.length:=(List.getElem?_eq_some_iff.mp h).1
 have e:Vf xs.length (j:Int)=some j:=by
  unfold Vf
  rw[if_pos (by omega),if_pos (by omega)];simp
 unfold sG;rw[e];exact h
theorem yO {α:Type} (xs:List α) (v:α):sG (xs ++ [v]) (-1)=some v:=by
 have hl:(xs ++ [v]).length=xs.length + 1:=by simp
 have e:Vf (xs ++ [v]).length (-1)=some xs.length:=by
  unfold Vf
  rw[hl,if_neg (by decide),if_pos (by omega)]
  congr 1
  omega
 unfold sG
 rw[e]
 show (xs ++ [v])[xs.length]?=some v
 simp
noncomputable def K4 (b:Expr):Prop:=∀o i,subscripted b false o i=operate [o,i] (getItem o i)
noncomputable def YN (X:Cx) (r:R2):Prop:=
 ∀(value slice:Expr) (pins:List (Addr × Obj)) (s:Shared) (σ:St) (H:Hp) (x y:V) (v u:Value) (Q:VK),Inv X pins σ H s→RelV x v→RelV y u→r x y H Q→
  subscripted slice false v u=operate [v,u] (getItem v u)→wpAny (model X.prog X.w) X.A (subscriptTail value slice v u) (EP X pins σ Q) X.xe s
noncomputable def ib (X:Cx) (id:String) (r:V→List V→Hp→VK→Prop):Prop:=
 ∀(pins:List (Addr × Obj)) (s:Shared) (σ:St) (H:Hp) (x:V) (xs:List V) (v:Value) (us:List Value) (Q:VK),Inv X pins σ H s→RelV x v→Vals xs us→r x xs H Q→
  wpAny (model X.prog X.w) X.A (call (.builtin id) (v :: us)) (EP X pins σ Q) X.xe s
section
variable {X:Cx} {a b:Expr} {ta tb:TE} {pos:Pos}
theorem qy {r:R2} (hr:YN X r) (ha:PE X a ta) (hb:PE X b tb) (hs:K4 b):PE X (.Subscript a b pos) (Ht r ta tb):=by
 intro pins s σ H Q I h
 exact Subscript_ (WW ha hb I h fun v u s2 x y H2 I2 rx ry q=>hr a b pins s2 σ H2 x y v u Q I2 rx ry q (hs _ _))
noncomputable def Yu (K:PySem.W.Frag):R2:=fun x y H Q=>∃p xs i v,x=.ref p∧y=.int i∧qD K H p xs∧sG xs i=some v∧Q v H
noncomputable def Yr (K:PySem.W.Frag):R2:=fun x y H Q=>∃p xs i v,x=.ref p∧y=.int i∧yy K H p xs∧sG xs i=some v∧Q v H
noncomputable def GG:R2:=fun x y H Q=>∃z i c,x=.str z∧y=.int i∧z.length≤sizeLine∧sG z.cps.toList i=some c∧Q (.str ⟨#[c]⟩) H
theorem Vd:YN X (Yu X.K):=by
 intro value slice pins s σ H x y v u Q I rx ry h hs
 obtain⟨p,xs,i,z,rfl,rfl,hq,he,q⟩:=h
 cases rx
 obtain⟨t,rfl⟩:=ry
 obtain⟨its,r,pl,hz⟩:=I.list hq
 obtain⟨j,h1,h2,h3,h4,h5⟩:=nF he
 obtain⟨w,ew,rw'⟩:=r.get h2
 have hl:=r.length
 have hn:=rA
 have fin:EP X pins σ Q w s:=⟨z,H,I,rw',q⟩
 by_cases h0:0≤i
 ·have hj:i.toNat=j:=by
   rw[seqIndex_of h0 h5] at h1
   exact Option.some.inj h1
  exact item_listR pl.isList h0 (by omega) (by rw[hj];simpa using ew) fin hs
 ·have hj:(i + (its.toArray.size:Int)).toNat=j:=by
   rw[seqIndex_neg (by omega) h4] at h1
   rw[List.size_toArray,←hl]
   exact Option.some.inj h1
  exact subscriptTail_builtinR (x:=w) pl.isList.typeIs slot_list_getitem.lookup
   (wpAny_getItem_list_neg (Q:=fun r s'=>r=w∧EP X pins σ Q r s') pl.isList (by omega) (by rw[List.size_toArray]<;>omega) (by omega) (by rw[hj];simpa using ew) ⟨rfl,fin⟩) hs
theorem WO:YN X (Yr X.K):=by
 intro value slice pins s σ H x y v u Q I rx ry h hs
 obtain⟨p,xs,i,z,rfl,rfl,hq,he,q⟩:=h
 cases rx
 obtain⟨t,rfl⟩:=ry
 obtain⟨its,r,pl,hz⟩:=I.tuple hq
 obtain⟨j,h1,h2,h3,h4,h5⟩:=nF he
 obtain⟨w,ew,rw'⟩:=r.get h2
 have hl:=r.length
 have hn:=rA
 have fin:EP X pins σ Q w s:=⟨z,H,I,rw',q⟩
 exact subscriptTail_builtinR (x:=w) pl.typeIs slot_tuple_getitem.lookup
  (getItem_tuple (j:=j) (Q:=fun r s'=>r=w∧EP X pins σ Q r s') pl (by omega) (by omega) (by rw[List.size_toArray,←hl];exact h1) (by simpa using ew) ⟨rfl,fin⟩) hs
theorem pE:YN X GG:=by
 intro value slice pins s σ H x y v u Q I rx ry h hs
 obtain⟨z,i,c,rfl,rfl,hz,he,q⟩:=h
 obtain⟨t,rfl⟩:=rx
 obtain⟨t',rfl⟩:=ry
 obtain⟨j,h1,h2,h3,h4,h5⟩:=nF he
 have hl:z.cps.toList.length=z.length:=by simp [Str.length]
 rw[hl] at h1 h4 h5
 have hn:=rA
 exact tail_any (typeIs_str s z t) slot_str_getitem.lookup (getItem_str (c:=c) (by
  have e1:decide (i < -(2 ^ 63:Int))=false:=decide_eq_false (by omega)
  have e2:decide (i≥2 ^ 63)=false:=decide_eq_false (by omega)
  rw[e1,e2,Bool.or_false]) (by rw[h1];simpa using h2) ⟨.str ⟨#[c]⟩,H,I.tok _,⟨_,rfl⟩,q⟩) hs
noncomputable def Fg (K:PySem.W.Frag):R2:=fun x y H Q=>Yu K x y H Q∨Yr K x y H Q∨GG x y H Q
noncomputable def BL:V→V→V→Hp→(Hp→Prop)→Prop:=fun o i v H Q=>∃p xs k j,o=.ref p∧i=.int k∧H p=some (.lst xs)∧Vf xs.length k=some j∧Q (upd H p (.lst (xs.set j v)))
theorem oI (lo hi:Option Int) (n:Nat):(sliceBounds lo hi none n).1=((HT.sJ n 0 lo:Nat):Int)∧(sliceBounds lo hi none n).2.1=((HT.sJ n n hi:Nat):Int)∧(sliceBounds lo hi none n).2.2=1:=by
 refine⟨?_,?_,rfl⟩
 ·cases lo with
  | none=>simp [sliceBounds,HT.sJ]
  | some i=>
   simp only[sliceBounds,HT.sJ,Option.getD_none,show (1:Int) > 0 by decide,if_true]
   by_cases h:i < 0
   ·simp only[h,if_true]<;>omega
   ·simp only[h,if_false]<;>omega
 ·cases hi with
  | none=>simp [sliceBounds,HT.sJ]
  | some i=>
   simp only[sliceBounds,HT.sJ,Option.getD_none,show (1:Int) > 0 by decide,if_true]
   by_cases h:i < 0
   ·simp only[h,if_true]<;>omega
   ·simp only[h,if_false]<;>omega
theorem sI (its:List Value) (lo hi:Option Int):slicePick its.toArray lo hi none=((its.drop (HT.sJ its.length 0 lo)).take (HT.sJ its.length its.length hi - HT.sJ its.length 0 lo)).toArray:=by
 obtain⟨h1,h2,h3⟩:=oI lo hi its.toArray.size
 unfold slicePick
 rw[h1,h2,h3]
 simp only[sliceRange_one,pick_run,List.size_toArray]<;>rfl
noncomputable def By (K:PySem.W.Frag):V→Option Int→Option Int→Hp→VK→Prop:=fun x lo hi H Q=>∃a xs,x=.ref a∧qD K H a xs∧∀p,H p=none→Q (.ref p) (upd H p (.lst (g6 xs lo hi)))
theorem VT:WK X (By X.K):=by
 intro pins s σ H x v vl vu lo hi sl Q I rx hs pl pu h
 obtain⟨a,xs,rfl,hx,q⟩:=h
 cases rx
 obtain⟨its,r,ht,hz⟩:=I.list hx
 have hlen:=r.length
 refine⟨"list",_,slot_list_getitem.lookup,ht.isList.typeIs,?_⟩
 refine wpAny_getItem_list_slice ht.isList hs pl pu .none (by simp) ?_ (by rw[List.size_toArray]<;>omega)
 rw[sI,←hlen]
 refine⟨.ref s.heap.objs.size,_,I.laid (t':=s.toks) (o:=.lst (g6 xs lo hi)) (fun b ob q=>Heap.get?_push_of_some _ q) (Nat.le_refl _) ?_,rfl,q _ (I.jc.fresh (Nat.le_refl _))⟩
 exact⟨Nat.le_trans (iG xs lo hi) hz,_,0,(r.drop (HT.sJ xs.length 0 lo)).take (HT.sJ xs.length xs.length hi - HT.sJ xs.length 0 lo),Heap.get?_push_size _ rfl⟩
noncomputable def mi:V→Bool
 | .non=>true
 | .bl _=>true
 | .int _=>true
 | .str _=>true
 | _=>false
noncomputable def Vk:V→V→Bool
 | .non,.non=>true
 | .bl a,.bl b=>a == b
 | .bl a,.int b=>(if a then 1 else 0) == b
 | .int a,.bl b=>a == (if b then 1 else 0)
 | .int a,.int b=>a == b
 | .str a,.str b=>a == b
 | _,_=>false
theorem WU {A:Around} {s:Shared} {y x:V} {u v:Value} (ry:RelV y u) (rx:RelV x v) (fy:mi y=true) (fx:mi x=true):SeqAt.EqAt A s u v (Vk y x):=by
 cases y with
 | non=>
  cases ry
  cases x with
  | non=>cases rx;exact SeqAt.EqAt.same _
  | bl b=>cases rx;exact SeqAt.EqAt.none_bool b
  | int b=>obtain⟨t,rfl⟩:=rx;exact SeqAt.EqAt.none_int b t
  | str b=>obtain⟨t,rfl⟩:=rx;exact SeqAt.EqAt.none_str b t
  | _=>exact absurd (show false=true from fx) Bool.false_ne_true
 | bl a=>
  cases ry
  cases x with
  | non=>cases rx;exact SeqAt.EqAt.bool_none a
  | bl b=>cases rx;exact SeqAt.EqAt.bool_bool a b
  | int b=>obtain⟨t,rfl⟩:=rx;exact SeqAt.EqAt.bool_int a b t
  | str b=>obtain⟨t,rfl⟩:=rx;exact SeqAt.EqAt.bool_str a b t
  | _=>exact absurd (show false=true from fx) Bool.false_ne_true
 | int a=>
  obtain⟨t',rfl⟩:=ry
  cases x with
  | non=>cases rx;exact SeqAt.EqAt.int_none a t'
  | bl b=>cases rx;exact SeqAt.EqAt.int_bool a t' b
  | int b=>obtain⟨t,rfl⟩:=rx;exact SeqAt.EqAt.int_int a t' b t
  | str b=>obtain⟨t,rfl⟩:=rx;exact SeqAt.EqAt.int_str a t' b t
  | _=>exact absurd (show false=true from fx) Bool.false_ne_true
 | str a=>
  obtain⟨t',rfl⟩:=ry
  cases x with
  | non=>cases rx;exact SeqAt.EqAt.str_none a t'
  | bl b=>cases rx;exact SeqAt.EqAt.str_bool a t' b
  | int b=>obtain⟨t,rfl⟩:=rx;exact SeqAt.EqAt.str_int a t' b t
  | str b=>obtain⟨t,rfl⟩:=rx;exact SeqAt.EqAt.str_str a t' b t
  | _=>exact absurd (show false=true from fx) Bool.false_ne_true
 | _=>exact absurd (show false=true from fy) Bool.false_ne_true
noncomputable def Vx (x:V) (u:Value):Bool:=match u with
 | .none=>Vk .non x
 | .bool b=>Vk (.bl b) x
 | .int i _=>Vk (.int i) x
 | .str z _=>Vk (.str z) x
 | _=>false
theorem J7 {x y:V} {u:Value} (r:RelV y u) (f:mi y=true):Vx x u=Vk y x:=by
 cases y with
 | non=>cases r;rfl
 | bl b=>cases r;rfl
 | int i=>obtain⟨t,rfl⟩:=r;rfl
 | str z=>obtain⟨t,rfl⟩:=r;rfl
 | _=>exact absurd (show false=true from f) Bool.false_ne_true
theorem nP {x:V}:∀{xs:List V} {us:List Value},Vals xs us→xs.all mi=true→us.any (Vx x)=xs.any fun y=>Vk y x
 | _,_,.nil,_=>rfl
 | y :: xs,u :: us,.cons r t,f=>by
  rw[List.all_cons,Bool.and_eq_true] at f
  rw[List.any_cons,List.any_cons,J7 r f.1,nP t f.2]
theorem ly {A:Around} {s:Shared} {x:V} {v:Value} (rx:RelV x v) (fx:mi x=true):∀{xs:List V} {us:List Value},Vals xs us→xs.all mi=true→∀u∈us,SeqAt.EqAt A s u v (Vx x u)
 | _,_,.nil,_=>fun u hu=>by cases hu
 | y :: xs,u :: us,.cons r t,f=>fun u' hu=>by
  rw[List.all_cons,Bool.and_eq_true] at f
  rcases List.mem_cons.mp hu with rfl | hu
  ·rw[J7 r f.1];exact WU r rx f.1 fx
  ·exact ly rx fx t f.2 u' hu
noncomputable def Vp (x:V) (xs:List V):Bool:=xs.any fun y=>Vk y x
noncomputable def BU (K:PySem.W.Frag) (neg:Bool):R2:=fun x y H Q=>∃p xs,y=.ref p∧(qD K H p xs∨yy K H p xs)∧mi x=true∧xs.all mi=true∧Q (.bl (if neg then !Vp x xs else Vp x xs)) H
theorem oJ:pB X (compareOp .NotIn) (BU X.K true):=by
 intro pins s σ H x y v u Q I rx ry h
 obtain⟨p,xs,rfl,hq,fx,fs,q⟩:=h
 cases ry
 rcases hq with hq | hq
 ·obtain⟨its,r,pl,hz⟩:=I.list hq
  refine SeqAt.notIn_listAt (Vx x) pl.isList (fun w hw=>ly rx fx r fs w (by simpa using hw)) ⟨.bl _,H,I,rfl,?_⟩
  rw[show its.toArray.any (Vx x)=its.any (Vx x) by simp,nP r fs]
  exact q
 ·obtain⟨its,r,pl,hz⟩:=I.tuple hq
  refine SeqAt.notIn_tupleAt (Vx x) pl (fun w hw=>ly rx fx r fs w (by simpa using hw)) ⟨.bl _,H,I,rfl,?_⟩
  rw[show its.toArray.any (Vx x)=its.any (Vx x) by simp,nP r fs]
  exact q
theorem nR:vC X (.builtin "len") (fun xs H Q=>∃p ys,xs=[.ref p]∧(qD X.K H p ys∨yy X.K H p ys)∧Q (.int ys.length) H):=by
 intro pins s σ H xs us Q I r h
 obtain⟨p,ys,rfl,hq,q⟩:=h
 obtain⟨u,rfl,rx⟩:=vals1 r
 cases rx
 have hn:=rA
 rcases hq with hq | hq
 ·obtain⟨its,r',pl,hz⟩:=I.list hq
  have hlen:=r'.length
  exact Calls.call_len_list pl.isList (by simp only[List.size_toArray]<;>omega) ⟨.int ys.length,H,I.tok _,⟨s.toks + 1,by rw[List.size_toArray,hlen]⟩,q⟩
 ·obtain⟨its,r',pl,hz⟩:=I.tuple hq
  have hlen:=r'.length
  exact len_tuple pl (by simp only[List.size_toArray]<;>omega) ⟨.int ys.length,H,I.tok _,⟨s.toks + 1,by rw[List.size_toArray,hlen]⟩,q⟩
theorem df:vC X (.builtin "len") (fun xs H Q=>∃z,xs=[.str z]∧z.length≤sizeLine∧Q (.int z.length) H):=by
 intro pins s σ H xs us Q I r h
 obtain⟨z,rfl,hz,q⟩:=h
 obtain⟨u,rfl,t,rfl⟩:=vals1 r
 have hn:=rA
 exact len_str (by omega) ⟨.int z.length,H,I.tok _,⟨_,rfl⟩,q⟩
theorem nL:vC X (.type "list") (fun xs H Q=>∃p ys,xs=[.ref p]∧(qD X.K H p ys∨yy X.K H p ys)∧∀l,H l=none→Q (.ref l) (upd H l (.lst ys))):=by
 intro pins s σ H xs us Q I r h
 obtain⟨p,ys,rfl,hq,q⟩:=h
 obtain⟨u,rfl,rx⟩:=vals1 r
 cases rx
 have fin:∀(its:List Value),Vals ys its→ys.length≤sizeLine→∀(h':Heap) (c':Nat),(∀b o',s.heap.get? b=some o'→h'.get? b=some o')→
   h'.get? s.heap.objs.size=some { cls:=.type "list",dict:=none,data:=.seq its.toArray c',slots:=#[] }→EP X pins σ Q (.ref s.heap.objs.size) { s with heap:=h' }:=fun its r' hz h' c' kp e=>
  ⟨.ref s.heap.objs.size,_,I.laid (t':=s.toks) kp (Nat.le_refl _) (show xb X.prog X.w _ h' _ (.lst ys) from ⟨hz,its,c',r',e⟩),rfl,q _ (I.jc.fresh (Nat.le_refl _))⟩
 rcases hq with hq | hq
 ·obtain⟨its,r',pl,hz⟩:=I.list hq
  have hlen:=r'.length
  obtain⟨o,ho,hc,n,hd⟩:=pl.isList
  exact call_list_seq p (.inl rfl) ho hc hd (fun h' c' kp e=>fin its r' hz h' c' kp e) (by simp only[List.size_toArray]<;>omega)
 ·obtain⟨its,r',pl,hz⟩:=I.tuple hq
  have hlen:=r'.length
  obtain⟨o,ho,hc,n,hd⟩:=pl
  exact call_list_seq p (.inr rfl) ho hc hd (fun h' c' kp e=>fin its r' hz h' c' kp e) (by simp only[List.size_toArray]<;>omega)
noncomputable def BV (K:PySem.W.Frag) (T:String) (x:V) (H:Hp):Prop:=match x with
 | .str _=>T = "str"
 | .int _=>T = "int"
 | .ref p=>(T = "list"∧∃xs,qD K H p xs)∨(T = "tuple"∧∃o,K.lookup p=some o∧o.cls=.type "tuple"∧o.dict=none)∨
   (T = "dict"∧((∃kvs,H p=some (.dK kvs))∨∃kvs,H p=some (.dT kvs)))∨(T = "set"∧∃S n,H p=some (.set S n))
 | _=>False
theorem KW {pins:List (Addr × Obj)} {σ:St} {H:Hp} {s:Shared} {T:String} {x:V} {v:Value} (I:Inv X pins σ H s) (r:RelV x v) (ty:BV X.K T x H) :
  s.TypeIs v T∧∀a,v=.ref a→∃ob,s.heap.get? a=some ob∧ob.dict=none:=by
 cases x with
 | str z=>
  obtain⟨t,rfl⟩:=r
  cases (show T = "str" from ty)
  exact⟨typeIs_str s z t,fun _ e=>nomatch e⟩
 | int i=>
  obtain⟨t,rfl⟩:=r
  cases (show T = "int" from ty)
  exact⟨typeIs_int s i t,fun _ e=>nomatch e⟩
 | ref p=>
  cases r
  rcases ty with ⟨rfl,xs,hq⟩ | ⟨rfl,o,hk,hc,hd⟩ | ⟨rfl,hk⟩ | ⟨rfl,S,n,hk⟩
  ·obtain⟨its,_,pl,_⟩:=I.list hq
   refine⟨pl.isList.typeIs,fun a e=>?_⟩
   cases e
   obtain⟨o,n,e,c,hd,_⟩:=pl
   exact⟨o,e,hd⟩
  ·refine⟨⟨o,I.pY p o hk,hc⟩,fun a e=>?_⟩
   cases e
   exact⟨o,I.pY _ o hk,hd⟩
  ·have z:∃o,s.heap.get? p=some o∧o.ExactDict:=by
    rcases hk with ⟨kvs,hk⟩ | ⟨kvs,hk⟩
    ·obtain⟨_,_,_,_,o,_,_,e,ex,_⟩:=I.jc p _ hk
     exact⟨o,e,ex⟩
    ·obtain⟨_,_,_,_,o,_,_,e,ex,_⟩:=I.jc p _ hk
     exact⟨o,e,ex⟩
   obtain⟨o,e,ex⟩:=z
   refine⟨⟨o,e,ex.1⟩,fun a e2=>?_⟩
   cases e2
   exact⟨o,e,ex.2.1⟩
  ·obtain⟨o,_,_,_,e,ex,_⟩:=I.jc p _ hk
   refine⟨⟨o,e,ex.1⟩,fun a e2=>?_⟩
   cases e2
   exact⟨o,e,ex.2.1⟩
 | _=>exact False.elim ty
noncomputable def Bp (K:PySem.W.Frag) (T:String) (r:V→List V→Hp→VK→Prop) (to:TE):TE:=fun σ H Q=>to σ H fun x H1=>BV K T x H1∧r x [] H1 Q
noncomputable def PB (K:PySem.W.Frag) (T:String) (r:V→List V→Hp→VK→Prop) (to:TE) (t:TA):TE:=fun σ H Q=>to σ H fun x H1=>BV K T x H1∧t σ H1 fun xs H2=>r x xs H2 Q
variable {o e:Expr} {es:List Expr} {to:TE} {t:TA} {name:Str} {apos cpos:Pos} {T id:String} {r:V→List V→Hp→VK→Prop}
theorem uz (pa:PlainAttrs T) (slot:Slot T name id) (hty:typeOf (.builtin id)=pure (.type "method_descriptor")) (hm:ib X id r) (ho:PE X o to)
  (hbase:attributeBase o name X.env (eval o X.env)=eval o X.env:=by rfl) (hline:(apos.endLine == cpos.line)=true:=by rfl):PE X (.Call (.Attribute o name apos) [] [] cpos) (Bp X.K T r to):=by
 intro pins s σ H Q I h
 refine wpAny_Call_method0_late hbase hline (xl (ho pins s σ H _ I h) fun v s1 ⟨x,H1,I1,r1,ty,q1⟩=>?_)
 obtain⟨h1,h2⟩:=KW I1 r1 ty
 exact⟨T,id,pa,slot,hty,h1,h2,Calls.callWith_builtin rfl (PySem.evalArgs_none (hm pins s1 σ H1 x [] v [] Q I1 r1 .nil q1))⟩
theorem ji (pa:PlainAttrs T) (slot:Slot T name id) (hty:typeOf (.builtin id)=pure (.type "method_descriptor")) (hm:ib X id r) (ho:PE X o to) (ha:PA X (e :: es) t)
  (hbase:attributeBase o name X.env (eval o X.env)=eval o X.env:=by rfl)
  (hfew:((backTo cpos (starEach (e :: es) X.env)).all (fun x=>!x.1) && (backToKw cpos (keywordEach [] X.env)).all (fun x=>x.1.isSome)
   && decide ((e :: es).length + ([]:List Keyword).length + (if ([]:List Keyword).isEmpty then 0 else 1) < 30))=true:=by rfl)
  (hline:(apos.endLine == cpos.line)=true:=by rfl) (hs:starEach (e :: es) X.env=(false,eval e X.env) :: starEach es X.env:=by rfl) (hplain:(backTo cpos (starEach es X.env)).any (·.1)=false:=by rfl) :
  PE X (.Call (.Attribute o name apos) (e :: es) [] cpos) (PB X.K T r to t):=by
 intro pins s σ H Q I h
 refine wpAny_Call_method_late hbase hfew hline rfl (xl (ho pins s σ H _ I h) fun v s1 ⟨x,H1,I1,r1,ty,q1⟩=>?_)
 obtain⟨h1,h2⟩:=KW I1 r1 ty
 refine⟨T,id,pa,slot,hty,h1,h2,?_⟩
 have hA:=ha cpos pins s1 σ H1 _ I1 q1
 rw[hs] at hA ⊢
 refine Calls.callWith_builtin (by show (false || (backTo cpos (starEach es X.env)).any (·.1))=false;rw[hplain]<;>rfl) (Calls.evalArgs_plain ?_)
 exact xl hA fun us s2 ⟨vs,H2,I2,r2,q2⟩=>hm pins s2 σ H2 x vs v us Q I2 r1 r2 q2
end
end L2
namespace L2
open PySem PySem.Spec PyProof.Rows
noncomputable def Hg (X:Cx) (id:String) (r:V→List V→Hp→VK→Prop):Prop:=
 ∀(pins:List (Addr × Obj)) (s:Shared) (σ:St) (H:Hp) (x:V) (xs:List V) (v:Value) (us:List Value) (Q:VK),Inv X pins σ H s→RelV x v→Vals xs us→r x xs H Q→
  wpAny (model X.prog X.w) X.A (call (.builtin id) (v :: us)) (EP X pins σ Q) X.xe s
theorem Vals.one:∀{x:V} {us:List Value},Vals [x] us→∃u,us=[u]∧RelV x u
 | _,_,.cons r .nil=>⟨_,rfl,r⟩
theorem Vals.zero:∀{us:List Value},Vals [] us→us=[]
 | _,.nil=>rfl
theorem Vals.dropLast {xs:List V} {us:List Value} (h:Vals xs us):Vals xs.dropLast us.dropLast:=by
 induction h with
 | nil=>exact .nil
 | cons r t ih=>
  cases t with
  | nil=>exact .nil
  | cons q t'=>exact .cons r ih
theorem Vals.rep {xs:List V} {us:List Value} (h:Vals xs us):∀k:Nat,Vals (List.replicate k xs).flatten (List.replicate k us).flatten
 | 0=>.nil
 | k + 1=>by
  rw[List.replicate_succ,List.replicate_succ,List.flatten_cons,List.flatten_cons]
  exact Vals.append h (Vals.rep h k)
theorem aK {α:Type} (l:List α):l.eraseIdx (l.length - 1)=l.dropLast:=by
 induction l with
 | nil=>rfl
 | cons a r ih=>
  cases r with
  | nil=>rfl
  | cons b r=>
   have e:(a :: b :: r).length - 1=((b :: r).length - 1) + 1:=by
    have h1:(a :: b :: r).length=r.length + 2:=rfl
    have h2:(b :: r).length=r.length + 1:=rfl
    omega
   rw[e,List.eraseIdx_cons_succ,ih]
   all_goals rfl
theorem foldl_rep (its:List Value):∀(k:Nat) (acc:List Value),
  List.foldl (fun x1 x2=>x1 ++ x2) acc.toArray (List.replicate k its.toArray)=(acc ++ (List.replicate k its).flatten).toArray
 | 0,acc=>by simp
 | k + 1,acc=>by
  have e:acc.toArray ++ its.toArray=(acc ++ its).toArray:=by simp
  have e2:(acc ++ its) ++ (List.replicate k its).flatten=acc ++ (List.replicate (k + 1) its).flatten:=by
   rw[List.replicate_succ,List.flatten_cons,List.append_assoc]
  rw[←e2,←foldl_rep its k (acc ++ its),←e,List.replicate_succ,List.foldl_cons]
section
variable {X:Cx} {pins:List (Addr × Obj)} {σ:St} {H:Hp} {s:Shared} {l b:Addr} {xs ys zs:List V}
theorem Inv.Vt {its its':List Value} {n:Nat} {f:Array Value→Array Value} {t':Nat} (I:Inv X pins σ H s) (hH:H l=some (.lst xs))
  (e:s.heap.get? l=some { cls:=.type "list",data:=.seq its.toArray n }) (hf:f its.toArray=its'.toArray) (hv:Vals ys its') (hz:ys.length≤sizeLine) :
  Inv X pins σ (upd H l (.lst ys)) { s with heap:=s.heap.update l (Obj.mapSeq f),toks:=t' }:=by
 have q:=PySem.IsL.update e f
 rw[hf] at q
 refine I.write (x:=l) (e:=l) (by rw[hH];exact trivial) (.inl rfl) (fun b' u hb hu=>(Heap.get?_update_other s.heap (Obj.mapSeq f) (Ne.symm hb)).trans hu) ⟨_,q⟩ ?_
 exact⟨hz,its',_,hv,q⟩
theorem Inv.Xs {its:List Value} {t':Nat} (I:Inv X pins σ H s) (hv:Vals ys its) (hz:ys.length≤sizeLine) :
  Inv X pins σ (upd H s.heap.objs.size (.lst ys)) { s with heap:=s.heap.push { cls:=.type "list",data:=.seq its.toArray },toks:=t' }:=
 I.laid (fun _ _ q=>Heap.get?_push_of_some _ q) (Nat.le_refl _) ⟨hz,its,0,hv,Heap.get?_push_size _ rfl⟩
theorem Inv.fresh (I:Inv X pins σ H s):H s.heap.objs.size=none:=I.jc.fresh (Nat.le_refl _)
theorem Inv.iE (I:Inv X pins σ H s) (hH:H l=some (.lst xs)):xs.length≤sizeLine∧∃(its:List Value) (n:Nat),Vals xs its∧xs.length=its.length∧s.heap.get? l=some { cls:=.type "list",data:=.seq its.toArray n }:=by
 obtain⟨z,its,n,r,e⟩:=I.jc l _ hH
 exact⟨z,its,n,r,r.length,e⟩
theorem i6 {n:Nat} (h:n≤sizeLine):Builtin.List.listTooLong n=false:=by
 unfold Builtin.List.listTooLong
 exact decide_eq_false (by omega)
end
section
variable {X:Cx}
noncomputable def VP:V→List V→Hp→VK→Prop:=fun x vs H Q=>∃l xs y,x=.ref l∧vs=[y]∧H l=some (.lst xs)∧xs.length < sizeLine∧Q .non (upd H l (.lst (xs ++ [y])))
theorem cI:Hg X "list.append" VP:=by
 intro pins s σ H x vs v us Q I rx rv h
 obtain⟨l,xs,y,rfl,rfl,hH,hz,q⟩:=h
 cases rx
 obtain⟨u,rfl,ru⟩:=rv.one
 obtain⟨z,its,n,r,hl,e⟩:=I.iE hH
 refine call_meets F.slot_list_append ⟨_,e,rfl⟩ F.entry_list_append (F.args_list_append_2 _ _) (PySem.list_append l its.toArray n u (by rw[List.size_toArray];omega)) ⟨e,?_⟩
 refine⟨.non,_,I.Vt (its':=its ++ [u]) hH e (by simp) (r.append (.cons ru .nil)) ?_,rfl,q⟩
 rw[List.length_append,List.length_singleton]
 omega
noncomputable def VM:V→List V→Hp→VK→Prop:=fun x vs H Q=>∃l b xs zs,x=.ref l∧vs=[.ref b]∧H l=some (.lst xs)∧H b=some (.lst zs)∧xs.length + zs.length≤sizeLine∧Q .non (upd H l (.lst (xs ++ zs)))
theorem Q4:Hg X "list.extend" VM:=by
 intro pins s σ H x vs v us Q I rx rv h
 obtain⟨l,b,xs,zs,rfl,rfl,hH,hB,hz,q⟩:=h
 cases rx
 obtain⟨u,rfl,ru⟩:=rv.one
 cases ru
 obtain⟨z,its,n,r,hl,e⟩:=I.iE hH
 obtain⟨z2,its2,n2,r2,hl2,e2⟩:=I.iE hB
 have hsz:its.toArray.size + its2.toArray.size≤sizeLine:=by rw[List.size_toArray,List.size_toArray];omega
 have hlong:¬(!its.toArray.isEmpty && Builtin.List.listTooLong (its.toArray.size + its2.toArray.size))=true:=by
  rw[i6 hsz,Bool.and_false]
  exact Bool.false_ne_true
 refine call_meets F.slot_list_extend ⟨_,e,rfl⟩ F.entry_list_extend (F.args_list_extend_2 _ _)
  (AutoSeq1.list_extend_list_list_0 l its.toArray n b its2.toArray n2 hlong (by rw[List.size_toArray];omega) (by omega)) ⟨e,e2,?_⟩
 refine⟨.non,_,I.Vt (its':=its ++ its2) hH e (by simp) (r.append r2) ?_,rfl,q⟩
 rw[List.length_append]
 omega
noncomputable def Bk:V→List V→Hp→VK→Prop:=fun x vs H Q=>∃l xs y,x=.ref l∧vs=[]∧H l=some (.lst xs)∧xs[xs.length - 1]?=some y∧Q y (upd H l (.lst xs.dropLast))
theorem W6:Hg X "list.pop" Bk:=by
 intro pins s σ H x vs v us Q I rx rv h
 obtain⟨l,xs,y,rfl,rfl,hH,hy,q⟩:=h
 cases rx
 have hus:=rv.zero
 subst hus
 obtain⟨z,its,n,r,hl,e⟩:=I.iE hH
 obtain⟨u,hu,ru⟩:=r.get hy
 have hy':its.toArray[its.toArray.size - 1]?=some u:=by
  show its.toArray[its.length - 1]?=some u
  rw[←Array.getElem?_toList,←hl]
  exact hu
 refine call_meets F.slot_list_pop ⟨_,e,rfl⟩ F.entry_list_pop (F.args_list_pop_1 _) (MeetsSeq.list_pop_last l its.toArray n u hy' (by rw[List.size_toArray];omega)) ⟨e,?_⟩
 refine⟨y,_,I.Vt (its':=its.dropLast) hH e ?_ r.dropLast ?_,ru,q⟩
 ·show its.toArray.eraseIdxIfInBounds (its.toArray.size - 1)=its.dropLast.toArray
  rw[List.size_toArray,List.eraseIdxIfInBounds_toArray,aK]
 ·rw[List.length_dropLast]
  omega
noncomputable def Bv:V→List V→Hp→VK→Prop:=fun x vs H Q=>∃l xs i k y,x=.ref l∧vs=[.int i]∧H l=some (.lst xs)∧-(2 ^ 63)≤i∧i < 2 ^ 63∧seqIndex? i xs.length=some k∧xs[k]?=some y∧Q y (upd H l (.lst (xs.eraseIdx k)))
noncomputable def GH:V→List V→Hp→VK→Prop:=fun x vs H Q=>∃l xs,x=.ref l∧vs=[]∧H l=some (.lst xs)∧Q .non (upd H l (.lst xs.reverse))
noncomputable def Yd:V→List V→Hp→VK→Prop:=fun x vs H Q=>∃l xs,x=.ref l∧vs=[]∧H l=some (.lst xs)∧Q .non (upd H l (.lst []))
theorem Xa:Hg X "list.clear" Yd:=by
 intro pins s σ H x vs v us Q I rx rv h
 obtain⟨l,xs,rfl,rfl,hH,q⟩:=h
 cases rx
 have hus:=rv.zero
 subst hus
 obtain⟨z,its,n,r,hl,e⟩:=I.iE hH
 refine call_meets F.slot_list_clear ⟨_,e,rfl⟩ F.entry_list_clear (F.args_list_clear_1 _) (AutoSeq1.list_clear_list_0 l its.toArray n (by rw[List.size_toArray];omega)) ⟨e,?_⟩
 exact⟨.non,_,I.Vt (its':=[]) (ys:=[]) hH e rfl .nil (Nat.zero_le _),rfl,q⟩
noncomputable def Bx:R2:=fun x y H Q=>∃l b xs zs,x=.ref l∧y=.ref b∧H l=some (.lst xs)∧H b=some (.lst zs)∧xs.length + zs.length≤sizeLine∧∀p,H p=none→Q (.ref p) (upd H p (.lst (xs ++ zs)))
theorem Yj:pB X (binaryOp .Add) Bx:=by
 intro pins s σ H x y v u Q I rx ry h
 obtain⟨l,b,xs,zs,rfl,rfl,hH,hB,hz,q⟩:=h
 cases rx
 cases ry
 obtain⟨z,its,n,r,hl,e⟩:=I.iE hH
 obtain⟨z2,its2,n2,r2,hl2,e2⟩:=I.iE hB
 refine PySem.P.add_list e e2 ?_ (by rw[List.size_toArray,List.size_toArray];omega)
 have ea:its.toArray ++ its2.toArray=(its ++ its2).toArray:=by simp
 rw[ea]
 exact⟨.ref _,_,I.Xs (t':=s.toks) (r.append r2) (by rw[List.length_append];omega),rfl,q _ I.fresh⟩
noncomputable def Bw:R2:=fun x y H Q=>∃l k xs,x=.ref l∧y=.int k∧H l=some (.lst xs)∧-(2 ^ 63)≤k∧k < 2 ^ 63∧xs.length * k.toNat≤sizeLine∧
 ∀p,H p=none→Q (.ref p) (upd H p (.lst (List.replicate k.toNat xs).flatten))
theorem len_rep {α:Type} (xs:List α) (k:Nat):(List.replicate k xs).flatten.length=k * xs.length:=by
 induction k with
 | zero=>simp
 | succ k ih=>rw[List.replicate_succ,List.flatten_cons,List.length_append,ih,Nat.succ_mul,Nat.add_comm]
theorem XD:pB X (binaryOp .Mult) Bw:=by
 intro pins s σ H x y v u Q I rx ry h
 obtain⟨l,k,xs,rfl,rfl,hH,h1,h2,hz,q⟩:=h
 cases rx
 obtain⟨t,rfl⟩:=ry
 obtain⟨z,its,n,r,hl,e⟩:=I.iE hH
 have hlen:its.toArray.size * k.toNat≤sizeLine:=by rw[List.size_toArray,←hl];exact hz
 have hcap:¬its.toArray.size * k.toNat > (2 ^ 63 - 1) / 8:=by
  have:(sizeLine:Nat)≤(2 ^ 63 - 1) / 8:=by decide
  omega
 have hfit:¬(!Builtin.List.listFitsIndex k)=true:=by
  rw[fitsIndex_both h1 h2]
  exact Bool.false_ne_true
 have hlong:¬Builtin.List.listTooLong (its.toArray.size * k.toNat)=true:=by
  rw[i6 hlen]
  exact Bool.false_ne_true
 have hnew:List.foldl (fun x1 x2=>x1 ++ x2) #[] (List.replicate (if its.toArray.isEmpty=true then 0 else k.toNat) its.toArray)=(List.replicate k.toNat its).flatten.toArray:=by
  have f0:∀m:Nat,List.foldl (fun x1 x2=>x1 ++ x2) #[] (List.replicate m its.toArray)=(List.replicate m its).flatten.toArray:=fun m=>by
   have:=foldl_rep its m []
   rw[List.nil_append] at this
   exact this
  rw[f0]
  cases its with
  | nil=>simp
  | cons a r'=>rw[if_neg (by simp)]
 refine wpAny_binaryOp_repeat_ref (T:="list") (U:="int") (by decide) ⟨_,e,rfl⟩ (fun s'=>typeIs_int s' k t) noFill_list_mul F.fills_int_mul F.slot_int_rmul repeat_list F.slot_int_index.lookup
  (call_meets F.slot_int_rmul (typeIs_int s k t) F.entry_int_rmul (F.args_int_rmul_2 _ _) (int___rmul___int_list k t l its.toArray n)
   ⟨e,rfl,⟨_,e,rfl⟩,call_meets F.slot_list_mul ⟨_,e,rfl⟩ F.entry_list_mul (F.args_list_mul_2 _ _) (AutoListH.list___mul___list_int_3 l its.toArray n k t hfit hcap hlong) ⟨e,?_⟩⟩)
 rw[hnew]
 exact⟨.ref _,_,I.Xs (t':=s.toks) (r.rep k.toNat) (by rw[len_rep,Nat.mul_comm];exact hz),rfl,q _ I.fresh⟩
end
section
variable {prog:Program} {w:World} {A:Around} {E:Value→Shared→Prop} {s:Shared}
end
section
variable {X:Cx}
end
end L2
namespace Att
open PySem PySem.W PySem.Calls PyProof.Rows
theorem uB {P:Params} {h:Heap}:∀(ns:List Int) (vs:List Value),WellAll P h vs (ns.map WData.int)→IntsAre vs ns:=by
 intro ns
 induction ns with
 | nil=>
  intro vs w
  rw[List.map_nil] at w
  cases w
  exact .nil
 | cons n ns ih=>
  intro vs w
  rw[List.map_cons] at w
  cases w with
  | cons a b=>
   cases a
   exact .cons _ _ (ih _ b)
theorem Jc {l:OpenLaw} {n:Nat} (hn:l.most=some n) {P:Params} {h:Heap} {args:List WData} {vals:List Value}
  (hpre:l.row.toRowW.claim.pre args=true) (hwl:WellAll P h vals args) :
  ∃a vs ns,vals=[Value.ref a]∧args=[WData.list (ns.map WData.int)]∧h.get? a=some { cls:=.type "list",data:=.seq vs.toArray }∧IntsAre vs ns∧ns.length≤n:=by
 have hsh:WShape.hasAll [] args [.list .int]=true:=(pre_splitW hpre).1
 have hc:l.pre.holds [] { args:=args }=true:=(pre_splitW hpre).2
 obtain⟨d,r,rfl,h1,h2⟩:=hasAllW_cons hsh
 obtain rfl:=hasAllW_nil h2
 obtain⟨xs,rfl,h3⟩:=hasW_list h1
 obtain⟨ns,rfl⟩:=items_int h3
 have hlen:ns.length≤n:=by
  unfold OpenLaw.pre at hc
  have h4:(WTm.not (.lt (.lit (.int (n:Int))) (.len (.arg 0)))).holds [] { args:=[.list (ns.map .int)] }=true:=by
   have h4:=(holds_andW hc).1
   rw[hn] at h4
   exact h4
  have h5:=condW_of h4 (w_not (w_lt w_lit (w_len_list (w_arg rfl))))
  rw[List.length_map] at h5
  refine Nat.le_of_not_lt fun q=>?_
  have q':(n:Int) < ((ns.length:Nat):Int):=by omega
  first
   | (rw[decide_eq_true q'] at h5;exact absurd h5 (by decide))
   | (simp at h5;omega)
 cases hwl with
 | cons w1 w2=>
  cases w2
  cases w1 with
  | list ho hall=>exact⟨_,_,ns,rfl,rfl,ho,uB ns _ hall,hlen⟩
theorem Jg (l:OpenLaw) (args:List WData):l.row.toRowW.claim.post args (.bool true) args=true:=
 postW_of (r:=l.row.toRowW) (X:=(true == true))
  (show WShape.has [] (.bool true) .bool=true by first | rfl | decide | simp [WShape.has,WShape.arms,WShape.armsAll])
  (show (WTm.eq .res (.lit (.bool true))).value [] { args:=args,res:=some (.bool true),after:=args }=some (.bool (true == true)) from w_eq_bool (w_res rfl) w_lit) rfl
theorem ie {l:OpenLaw} {n:Nat} {q:Program} {loose:List Str} {XP:(Str→Option Value)→Heap→Prop} {YP:World→Heap→Prop} {d:DefRec}
  (hn:l.most=some n) (hdf:d.params.defaults=[])
  (call:∀(w:World) (s₀ s₁:Shared) (mg mb:Str→Option Value) (fa:Addr) (o:Obj) (pm cd doc:Value) (a:Addr) (vs:List Value) (ns:List Int),
   Ground q loose [] XP w s₀ mg mb s₁.heap→YP w s₁.heap→
   s₁.heap.get? fa=some o→o.data=.func (docDef d.name d.params d.body d.scope pm cd doc)→s₁.heap.CodeRec cd d.name→mg d.name=some (.ref fa)→
   s₁.heap.get? a=some { cls:=.type "list",data:=.seq vs.toArray }→IntsAre vs ns→ns.length≤n→s₁.gens = #[]→
   codeAny (model l.prog w) callerA (.call (.ref fa) ⟨[.ref a],[]⟩) (fun r s'=>r=.ok (.ret (.bool true))∧OldK s₁.heap s'.heap∧s'.os=s₁.os∧AllBare s'.gens) s₁) :
  WalkO q loose XP YP l.row.toRowW d [] (fun f vs=>PySem.call f vs):=by
 intro w s₀ s₁ mg mb G Y fa o pm cd doc dV kV ho hd hcd hD hmg hg args vals as hpre hlay hrd hwl hlo
 obtain rfl:dV=.none:=Dflts.none hD hdf
 obtain rfl:kV=.none:=Dflts.noKw hD
 obtain⟨a,vs,ns,rfl,rfl,hobj,hints,hlen⟩:=Jc hn hpre hwl
 refine enter_call (codeAny_mono (call w s₀ s₁ mg mb fa o pm cd doc a vs ns G Y ho (fd_plain hd) hcd hmg hobj hints hlen hg) fun r s' hq=>?_)
 obtain⟨rfl,h2,h3,h4⟩:=hq
 exact⟨.inl ⟨.bool true,.bool true,[],rfl,fun _=>rfl,.bool true,Jg l _,fun _=>⟨List.Pairwise.nil,fun _ hm=>(nomatch hm)⟩⟩,h2,h3,h4⟩
section
variable {prog:Program} {w:World} {A:Around} {E:Value→Shared→Prop} {s:Shared} {K:Frag}
noncomputable def HI (h:Heap):Heap:={ h with objs:=#[] }
noncomputable def ledger (h:Heap) (L d:Addr):List (Addr × Obj):=(List.range h.objs.size).filterMap fun a=>if a=L∨a=d then none else (h.get? a).map fun o=>(a,o)
end
end Att
namespace L2
open PySem PySem.Spec PyProof.Rows
theorem nK:∀{vs:List Value} {ns:List Int},IntsAre vs ns→Vals (ns.map V.int) vs
 | _,_,.nil=>.nil
 | _,_,.cons n t h=>.cons ⟨t,rfl⟩ (nK h)
noncomputable def JM (H:Hp):Prop:=∀b,H b=none∨∃o xs,H b=some (.frz o (.lst xs))
theorem Xc {P:Program} {w:World} {K:PySem.W.Frag} {mg mb:Str→Option Value} {CX:sQ} {k:Nat} {fa a:Addr} {fd:FuncData} {x:Str} {sp:Sp} {s₁:Shared} {vs:List Value} {ns:List Int}
  (KX:K.In s₁.heap) (hns:s₁.heap.Ns mainGlobals mg) (hb:s₁.heap.Ns builtinsNs mb) (hbb:∀x:Str,x≠"__name__"→mb x=bootBuiltins x) (hlim:s₁.heap.NoLimit) (hg:s₁.gens = #[])
  (ha:s₁.heap.get? a=some { cls:=.type "list",data:=.seq vs.toArray }) (hi:IntsAre vs ns) (hl:ns.length≤sizeLine) (hr:vJ k callerA)
  (F:∀base:Heap,K.In base→base.Ns mainGlobals mg→qi P w K mg base CX k fa fd [x] sp) (hbind:∀(s:Shared) (u:Value),BindsTo s fd ⟨[u],[]⟩ [(x,u)])
  (hsp:∀H:Hp,JM H→qD K H a (ns.map V.int)→sp [.ref a] H (fun v _=>v=.bl true) fun _ _ _=>False)
  (hCX:∀H e s',CX [] H s₁ (fun _ _ _=>False) e s'→False) :
  codeAny (model P w) callerA (.call (.ref fa) ⟨[.ref a],[]⟩) (fun r s'=>r=.ok (.ret (.bool true))∧OldK s₁.heap s'.heap∧s'.os=s₁.os∧AllBare s'.gens) s₁:=by
 have rv:=nK hi
 have lenV:=hi.length
 have core:∀H:Hp,JM H→qD K H a (ns.map V.int)→pW P w H s₁.heap→(∀b,H b≠none→b=a)→(H a≠none→K.lookup a=none)→
   codeAny (model P w) callerA (.call (.ref fa) ⟨[.ref a],[]⟩) (fun r s'=>r=.ok (.ret (.bool true))∧OldK s₁.heap s'.heap∧s'.os=s₁.os∧AllBare s'.gens) s₁:=by
  intro H hO hS jc hA hK
  have base_of:∀{b:Addr} {o:Obj},s₁.heap.get? b=some o→H b=none→(oq s₁.heap H).get? b=some o:=fun e n=>Xb e n
  have noA:∀{b:Addr} {o:Obj} {es:Array DictEntry} {ep:Nat},s₁.heap.get? b=some o→o.data=.dict es ep→H b=none:=fun {b o es ep} e d=>by
   cases q:H b with
   | none=>rfl
   | some u=>
    have e':b=a:=hA b (by rw[q];simp)
    subst e'
    rw[ha] at e;cases e
    have d':Data.seq vs.toArray _=Data.dict es ep:=d
    cases d'
  have nsK:∀{b:Addr} {m:Str→Option Value},s₁.heap.Ns b m→(oq s₁.heap H).Ns b m:=fun {b m} ⟨o,es,ep,e,d,r⟩=>⟨o,es,ep,base_of e (noA e d),d,r⟩
  have hKb:K.In (oq s₁.heap H):=fun b o e=>base_of (KX b o e) (by
   cases q:H b with
   | none=>rfl
   | some u=>
    have e':b=a:=hA b (by rw[q];simp)
    subst e'
    rw[hK (by rw[q];simp)] at e;cases e)
  have hM:Mod K mg (oq s₁.heap H):=⟨hKb,nsK hns,⟨mb,nsK hb,hbb⟩,let ⟨mc,h1,h2⟩:=hlim;⟨mc,nsK h1,h2⟩⟩
  have e0:ir P w K mg (oq s₁.heap H) callerA [] s₁ H:=⟨rfl,hM,fun b o e=>VW e,Nat.le_of_eq (QS _ _),trivial,fun b hb=>absurd (show b∈([]:List Addr) from hb) (by simp),jc,.of_eq hg⟩
  refine codeAny_mono ((F _ hKb (nsK hns)).run callerA [] s₁ H ⟨[.ref a],[]⟩ [.ref a] [.ref a] _ _ hr e0 (hbind s₁ (.ref a)) (.cons rfl .nil) (hsp H hO hS)) fun r s' h=>?_
  cases r with
  | error e=>exact(hCX H e s' h).elim
  | ok fl=>
   cases fl with
   | next=>exact False.elim h
   | brk=>exact False.elim h
   | cont=>exact False.elim h
   | ret u=>
    obtain⟨v,H',os,bare,un,hok',r',q⟩:=h
    have q':v=.bl true:=q
    subst q'
    obtain rfl:u=Value.bool true:=r'
    refine⟨rfl,OldK.of_keep fun b o e=>?_,os,bare⟩
    cases q:H b with
    | none=>exact un.keep b o e q (by intro z;exact absurd (show b∈([]:List Addr) from z) (by simp)) (by simp)
    | some u=>
     rcases hO b with z | ⟨ob,xs,z⟩
     ·rw[q] at z;cases z
     ·have z2:=un.sP b ob _ z
      obtain⟨e1,_⟩:=jc b _ z
      obtain⟨e2,_⟩:=hok' b _ z2
      rw[e] at e1;cases e1
      exact e2
 cases hk:K.lookup a with
 | some o=>
  have e:=KX a o hk
  rw[ha] at e
  cases e
  refine core (fun _=>none) (fun _=>.inl rfl) (.inr ⟨_,vs.toArray,_,hk,rfl,rfl,rfl,by rw[List.size_toArray,lenV];exact hl,by simpa using rv⟩) (fun b u z=>by have z':(none:Option HO)=some u:=z;cases z') (fun b z=>absurd rfl z) fun z=>absurd rfl z
 | none=>
  refine core (fun b=>if b=a then some (.frz { cls:=.type "list",data:=.seq vs.toArray } (.lst (ns.map V.int))) else none) (fun b=>?_) (.inl (.inr ⟨{ cls:=.type "list",data:=.seq vs.toArray },if_pos rfl⟩)) (fun b u z=>?_) (fun b z=>?_) fun _=>hk
  ·by_cases hb:b=a
   ·exact .inr ⟨_,_,if_pos hb⟩
   ·exact .inl (if_neg hb)
  ·by_cases hb:b=a
   ·have z':=(if_pos hb).symm.trans z
    cases z'
    subst hb
    exact⟨ha,by rw[List.length_map];exact hl,vs,_,rv,ha⟩
   ·have z':=(if_neg hb).symm.trans z
    cases z'
  ·by_cases hb:b=a
   ·exact hb
   ·exact absurd (if_neg hb) z
end L2
namespace L2
open PySem PySem.Spec PyProof.Rows
noncomputable abbrev BH {K:PySem.W.Frag} {h:Heap} (_:K.In h):PySem.W.Frag:=K
theorem V3 {l:PySem.W.OpenLaw} {n k:Nat} {q:Program} {loose:List Str} {XP:(Str→Option Value)→Heap→Prop} {YP:World→Heap→Prop} {d:DefRec} {K:Params→PySem.W.Frag} {CX:World→sQ} {sp:World→Sp} {x:Str}
  (hn:l.most=some n) (hn2:n≤sizeLine) (hdf:d.params.defaults=[]) (hr:vJ k callerA)
  (hY:∀(w:World) (h:Heap),YP w h→(K w.params).In h)
  (F:∀(w:World) (mg:Str→Option Value) (fa:Addr) (h:Heap),(K w.params).In h→h.Ns mainGlobals mg→mg d.name=some (.ref fa)→
   ∃fd:FuncData,(∀(s:Shared) (u:Value),BindsTo s fd ⟨[u],[]⟩ [(x,u)])∧
    ∀base:Heap,(K w.params).In base→base.Ns mainGlobals mg→qi l.prog w (K w.params) mg base (CX w) k fa fd [x] (sp w))
  (hsp:∀(w:World) (H:Hp) (a:Addr) (ns:List Int),ns.length≤n→JM H→qD (K w.params) H a (ns.map V.int)→sp w [.ref a] H (fun v _=>v=.bl true) fun _ _ _=>False)
  (hCX:∀(w:World) (H:Hp) (s:Shared) (e:Value) (s':Shared),CX w [] H s (fun _ _ _=>False) e s'→False) :
  PySem.W.WalkO q loose XP YP l.row.toRowW d [] (fun f vs=>PySem.call f vs):=by
 refine Att.ie hn hdf fun w s₀ s₁ mg mb fa o pm cd doc a vs ns G Y ho hd hcd hmg hobj hints hlen hg=>?_
 have KX:=hY w _ Y
 obtain⟨fd,hb,hF⟩:=F w mg fa _ KX G.T.g hmg
 exact Xc KX G.T.g G.T.b G.T.builtins G.T.nolimit hg hobj hints (Nat.le_trans hlen hn2) hr hF hb (fun H hO hS=>hsp w H a ns hlen hO hS) fun H e s'=>hCX w H s₁ e s'
theorem KG {l:PySem.W.OpenLaw} {n k:Nat} {q:Program} {loose:List Str} {XP:(Str→Option Value)→Heap→Prop} {YP:World→Heap→Prop} {d:DefRec} {K:Params→PySem.W.Frag} {CX:sQ} {sp:PySem.W.Frag→Sp} {x:Str}
  (hn:l.most=some n) (hn2:n≤sizeLine) (hdf:d.params.defaults=[]) (hr:vJ k callerA)
  (hY:∀(w:World) (h:Heap),YP w h→(K w.params).In h)
  (F:∀(w:World) (mg:Str→Option Value) (fa:Addr) (h:Heap),(K w.params).In h→h.Ns mainGlobals mg→mg d.name=some (.ref fa)→
   ∃fd:FuncData,(∀(s:Shared) (u:Value),BindsTo s fd ⟨[u],[]⟩ [(x,u)])∧
    ∀base:Heap,(K w.params).In base→base.Ns mainGlobals mg→qi l.prog w (K w.params) mg base CX k fa fd [x] (sp (K w.params)))
  (hsp:∀(K:PySem.W.Frag) (H:Hp) (a:Addr) (ns:List Int),ns.length≤n→JM H→qD K H a (ns.map V.int)→sp K [.ref a] H (fun v _=>v=.bl true) fun _ _ _=>False)
  (hCX:∀(H:Hp) (s:Shared) (e:Value) (s':Shared),CX [] H s (fun _ _ _=>False) e s'→False) :
  PySem.W.WalkO q loose XP YP l.row.toRowW d [] (fun f vs=>PySem.call f vs):=
 V3 (K:=K) (CX:=fun _=>CX) (sp:=fun w=>sp (K w.params)) hn hn2 hdf hr hY F (fun w H a ns h1 h2 h3=>hsp (K w.params) H a ns h1 h2 h3) fun _ H s e s'=>hCX H s e s'
end L2
namespace L2
open PySem PySem.Spec PyProof.Rows
noncomputable def inClass (s:Stmt) (j:Nat):Stmt:=match s with
 | .ClassDef _ _ _ body _ _ _ _ _ _ _=>body.getD j (.Pass ⟨0,0,0,0⟩)
 | _=>.Pass ⟨0,0,0,0⟩
noncomputable def qz (s:Stmt):Arguments:=match s with
 | .FunctionDef _ a _ _ _ _ _ _ _ _=>a
 | _=>{ posonlyargs:=[],args:=[],vararg:=none,kwonlyargs:=[],kw_defaults:=[],kwarg:=none,defaults:=[] }
noncomputable def z9 (s:Stmt):List Stmt:=match s with
 | .FunctionDef _ _ b _ _ _ _ _ _ _=>b
 | _=>[]
noncomputable def z4 (s:Stmt):Scope:=match s with
 | .FunctionDef _ _ _ _ _ _ sc _ _ _=>sc
 | _=>{ kind:=.function,names:=[],isGenerator:=false,isCoroutine:=false }
noncomputable abbrev jk:sQ:=fun _ _ _ _ _ _=>False
noncomputable abbrev E0:XK:=fun _ _ _=>False
theorem qQ {X:Cx}:Passes jk X E0:=fun _ _ _ _ _ _ _ h=>h.elim
structure K2 (K:PySem.W.Frag) (x qual:Str) (st:Stmt) (f:Addr) (fd:FuncData):Prop where
 ex:∃(oc:Value) (od:Option Addr) (kV doc pm:Value) (an:Option Addr) (cdv ct:Value) (osl:Array (Option Value)),
  fd=PySem.W.fnOf x qual (qz st) (z9 st) (z4 st) .none kV doc pm an cdv ct∧K.lookup f=some ⟨oc,od,.func fd,osl⟩∧PySem.W.codeIn K cdv qual=true
 kp:PySem.W.keepIn K (.ref f)=true
section
variable {P:Program} {w:World} {K:PySem.W.Frag} {mg:Str→Option Value} {base:Heap}
theorem K2.ok {x qual:Str} {st:Stmt} {f:Addr} {fd:FuncData} {N ps:List Str} {k:Nat} {sp:Sp} (F:K2 K x qual st f fd) (S:qo N ps (z4 st)) (len:∀vs H Q E,sp vs H Q E→vs.length=ps.length)
  (hbody:∀(cdv:Value) (A:Around) (outer:List Env) (s:Shared) (H:Hp) (vs:List V) (Q:VK) (E:XK),vJ k (A.deeper (envOfC qual (z4 st) s.heap.objs.size f cdv))→sp vs H Q E→
   ∃t,ZV (nN jk P w K mg base N qual (z4 st) f cdv A outer s H E).Hb (z9 st) t∧t { nx:=fun _ H'=>Q .non H',rt:=Q } (start N vs) H):qi P w K mg base jk (k + 1) f fd ps sp:=by
 obtain⟨oc,od,kV,doc,pm,an,cdv,ct,osl,rfl,lk,hcd⟩:=F.ex
 refine Wh lk hcd S len fun A outer s H vs Q E hr hsp=>?_
 obtain⟨t,h,q⟩:=hbody cdv A outer s H vs Q E hr hsp
 exact⟨t,h.Hb,q⟩
theorem K2.binds {x qual:Str} {st:Stmt} {f:Addr} {fd:FuncData} {ps:List Str} (F:K2 K x qual st f fd)
  (h:∀(kV doc pm:Value) (an:Option Addr) (cdv ct:Value) (us:List Value),us.length=ps.length→bindArgs (PySem.W.fnOf x qual (qz st) (z9 st) (z4 st) .none kV doc pm an cdv ct) ⟨us,[]⟩=pure (ps.zip us)):Binds K fd ps []:=by
 obtain⟨oc,od,kV,doc,pm,an,cdv,ct,osl,rfl,lk,hcd⟩:=F.ex
 exact .all (h kV doc pm an cdv ct)
theorem qV {x qual:Str} {st:Stmt} {f:Addr} {oc:Value} {od an:Option Addr} {osl:Array (Option Value)} {kV doc pm cdv ct:Value} (l:K.lookup f=some ⟨oc,od,.func (PySem.W.fnOf x qual (qz st) (z9 st) (z4 st) .none kV doc pm an cdv ct),osl⟩)
  (c:PySem.W.codeIn K cdv qual=true) (k:PySem.W.keepIn K (.ref f)=true):K2 K x qual st f (PySem.W.fnOf x qual (qz st) (z9 st) (z4 st) .none kV doc pm an cdv ct):=⟨⟨oc,od,kV,doc,pm,an,cdv,ct,osl,rfl,l,c⟩,k⟩
end
theorem Z1 {A:Around} {k:Nat} (hr:vJ k A):A.units + 1 < cLine:=Nat.lt_of_le_of_lt (Nat.add_le_add_left (by decide:1≤64) _) hr.units
theorem ux {n:Nat} (h:n≤1000):n < sizeLine:=Nat.lt_of_le_of_lt h (by decide)
section
variable {X:Cx}
theorem pv (i:Nat) {x:Str} {pos:Pos} (hN:X.N[i]?=some x:=by rfl) (hv:HX X.env.scope x:=by first | exact Or.inl rfl | exact Or.inr (Or.inl rfl) | exact Or.inr (Or.inr rfl)) (hd:(x == ("__debug__" : Str))=false:=by decide)
  (hcd:(x == ("__classdict__" : Str))=false:=by decide):PE X (.Name x pos) (G7 i):=Yh hN hv hd hcd
end
theorem pI {A B:Prop} (h:B):if false=true then A else B:=by
 rw[if_neg Bool.false_ne_true]
 exact h
theorem mE {A B:Prop} (h:A):if true=true then A else B:=by
 rw[if_pos rfl]
 exact h
theorem jH {c A B:Prop} [Decidable c] (h1:c→A) (h2:¬c→B):if c then A else B:=by
 by_cases h:c
 ·rw[if_pos h]
  exact h1 h
 ·rw[if_neg h]
  exact h2 h
theorem Gf {c A B:Prop} [Decidable c] (hc:c) (h:B):if (!decide c)=true then A else B:=by
 rw[decide_eq_true hc]
 exact pI h
noncomputable def qk (H H':Hp):Prop:=∀b o,H b=some o→H' b=some o
theorem qk.refl (H:Hp):qk H H:=fun _ _ h=>h
theorem qk.trans {H H1 H2:Hp} (a:qk H H1) (b:qk H1 H2):qk H H2:=fun c o h=>b c o (a c o h)
theorem qk.free {H H':Hp} (e:qk H H') {l:Addr} (h:H' l=Option.none):H l=Option.none:=by
 cases q:H l with
 | none=>rfl
 | some o=>
  rw[e l o q] at h
  cases h
theorem qk.seq {K:PySem.W.Frag} {H H':Hp} {a:Addr} {xs:List V} (e:qk H H') (h:qD K H a xs):qD K H' a xs:=by
 rcases h with (h | ⟨o,h⟩) | h
 ·exact .inl (.inl (e _ _ h))
 ·exact .inl (.inr ⟨o,e _ _ h⟩)
 ·exact .inr h
end L2
namespace L2
open PySem PySem.Spec PyProof.Rows
section
variable {X:Cx}
end
noncomputable def Hy (z:Str):It:=⟨fun i _=>i < z.length,fun i H x H'=>H'=H∧∃c,z.cps[i]?=some c∧x=.str ⟨#[c]⟩,fun i _=>i=z.length⟩
theorem nW {prog:Program} {w:World} {A:Around} (hh:A.handled=none) (I:Addr) (x:Str) (t:Tok) :
  Walks prog w A I [I] [I] x.cps.size (SignAt x) (fun i h=>h.IsStrIter I (strIterType x) x t i):=by
 unfold strIterType
 split
 ·exact Walks.strAscii hh I x t
 ·exact Walks.strWide hh I x t
theorem tj (z:Str):["enumerate","zip","dict_itemiterator","dict_reverseitemiterator","odict_iterator","itertools.zip_longest","itertools.pairwise"].contains (strIterType z)=false:=by
 unfold strIterType
 split<;>decide
theorem KQ {P:Program} {w:World} {K:PySem.W.Frag} {tg:Expr} (z:Str) (t:Tok) (it:Addr):Turn P w K tg (Hy z) [it] it (fun i h=>h.IsStrIter it (strIterType z) z t i) where
 mem:=by simp
 obj:=fun i h st b hb=>by
  have e:b=it:=by simpa using hb
  subst e
  obtain⟨o,e,c,d⟩:=st
  exact⟨o,e,fun v q=>by rw[d] at q;cases q⟩
 keep:=fun i h h' st k=>by
  obtain⟨o,e,r⟩:=st
  exact⟨o,k it (by simp) o e,r⟩
 item:=by
  intro X hP hw hK hc i pins s σ H E I hf st hg
  subst hP hw hK
  obtain⟨f0,f1,f2,f3,f4,f5⟩:=hf it (by simp)
  have W:=nW (prog:=X.prog) (w:=X.w) (I.ok.hd hc) it z t
  refine W.item i s _ _ (show i < z.cps.size from hg) st fun v h' tk hv st' kk=>?_
  obtain⟨c,u,hcx,rfl⟩:=hv
  have I1:Inv X pins σ H { s with heap:=h',toks:=tk }:=I.turned (fun b o hb e=>kk b o (by simpa using hb) e) f0 f1 f3 f4 f5
  obtain⟨o,e,hcl,d⟩:=id st'
  exact⟨_,rfl,Xg (s:={ s with heap:=h',toks:=tk }) e hcl d (tj z) ⟨.str ⟨#[c]⟩,H,I1,⟨u,rfl⟩,⟨rfl,c,hcx,rfl⟩,st',fun b hb=>(hf b hb).1⟩⟩
 done:=by
  intro X hP hw hK hc i pins s σ H E I hf st hg
  subst hP hw hK
  obtain⟨f0,f1,f2,f3,f4,f5⟩:=hf it (by simp)
  have hi:i=z.length:=hg
  subst hi
  have W:=nW (prog:=X.prog) (w:=X.w) (I.ok.hd hc) it z t
  exact W.done s _ _ st fun h' tk kk=>⟨rfl,I.turned (fun b o hb e=>kk b o (by simpa using hb) e) f0 f1 f3 f4 f5⟩
 self:=fun A i s Q E st h=>by
  revert st
  unfold strIterType
  split
  ·intro st
   exact wpAny_pyIter_striter_ascii st h
  ·intro st
   exact wpAny_pyIter_striter_wide st h
section
variable {X:Cx} {tg:Expr}
noncomputable def HF (tl:TE):TI:=fun σ H R=>tl σ H fun x H1=>∃z,x=.str z∧R (Hy z) H1
theorem Yp {l:Expr} {tl:TE} (hl:PE X l tl):PI X tg l (HF tl):=by
 intro pins s σ H R I h
 refine xl (hl pins s σ H _ I h) fun v s1 ⟨x,H1,I1,r1,q1⟩=>?_
 obtain⟨z,e,q⟩:=q1
 subst e
 obtain⟨t,rfl⟩:=r1
 refine wpAny_pyIter_strU ?_
 refine⟨s1.heap.objs.size,[s1.heap.objs.size],_,_,H1,rfl,I1.kept (t':=s1.toks) fun b o e=>Heap.get?_push_of_some _ e,KQ z t _,⟨_,Heap.get?_push_size _ rfl,rfl,rfl⟩,fun b hb=>?_,q⟩
 have e:b=s1.heap.objs.size:=by simpa using hb
 subst e
 exact I1.QR (Nat.le_refl _) (I1.jc.fresh (Nat.le_refl _))
end
noncomputable def PZ:V→Option Int→Option Int→Hp→VK→Prop:=fun x lo hi H Q=>∃z,x=.str z∧z.length≤sizeLine∧Q (.str (Txt.slice z lo hi)) H
section
variable {X:Cx}
theorem sf {ns:List Str}:∀{us:List Value},Vals (ns.map V.str) us→StrsAre us ns:=by
 induction ns with
 | nil=>intro us h;cases h;exact .nil
 | cons n ns ih=>
  intro us h
  cases h with
  | cons r t=>
   obtain⟨tk,rfl⟩:=r
   exact .cons n tk (ih t)
noncomputable def rJoin (K:PySem.W.Frag):V→List V→Hp→VK→Prop:=fun x vs H Q=>∃z p ys,x=.str z∧vs=[.ref p]∧qD K H p (ys.map V.str)∧(ys.map (·.length)).sum + ys.length * z.length≤16777216∧Q (.str (Txt.join z ys)) H
theorem Vo:ib X "str.join" (rJoin X.K):=by
 intro pins s σ H x vs v us Q I rx rv h
 obtain⟨z,p,ys,rfl,rfl,hq,hz,q⟩:=h
 obtain⟨t,rfl⟩:=rx
 obtain⟨u,rfl,ru⟩:=rv.one
 cases ru
 obtain⟨its,r,pl,_⟩:=I.list hq
 exact join_list pl.isList (sf (by simpa using r)) hz fun t' k=>⟨.str (Txt.join z ys),H,I.tok _,⟨t',rfl⟩,q⟩
noncomputable def BR:R2:=fun x y H Q=>∃z n,x=.str z∧y=.int n∧MulOk z n∧Q (.str (Txt.mul z n)) H
noncomputable def BC:V→List V→Hp→VK→Prop:=fun x vs H Q=>∃z y,x=.str z∧vs=[.str y]∧Q (.int (Txt.find z y)) H
theorem sH:vC X (.type "int") (fun xs H Q=>∃z n,xs=[.str z]∧PySem.intText? z=some n∧z.length≤640∧Q (.int n) H):=by
 intro pins s σ H xs us Q I r h
 obtain⟨z,n,rfl,hn,hl,q⟩:=h
 obtain⟨u,rfl,t,rfl⟩:=vals1 r
 exact PySem.W.KIN.call_text hn hl ⟨.int n,H,I.tok _,⟨_,rfl⟩,q⟩
noncomputable def JE:V→Value
 | .ty n=>.type n
 | .ref a=>.ref a
 | _=>.none
theorem iZ:vC X (.builtin "isinstance") (fun xs H Q=>∃x c t b,xs=[x,c]∧((∃n,c=.ty n)∨∃a,c=.ref a)∧wY X.K H x t∧PySem.W.kitOne X.K t (JE c)=some b∧Q (.bl b) H):=by
 intro pins s σ H xs us Q I r h
 obtain⟨x,c,t,b,rfl,hc,ty,hk,q⟩:=h
 obtain⟨u,u',rfl,rx,rc⟩:=vals2 r
 have e:u'=JE c:=by
  rcases hc with ⟨n,rfl⟩ | ⟨a,rfl⟩
  ·exact rc
  ·exact rc
 subst e
 exact QN I rx ty hk fun tk=>⟨.bl b,H,I.tok _,rfl,q⟩
theorem range_all (bs:List Bool):(List.range bs.length).all (fun i=>bs.getD i true)=bs.all id:=by
 rw[Bool.eq_iff_iff,List.all_eq_true,List.all_eq_true]
 constructor
 ·intro h x hx
  obtain⟨i,hi,e⟩:=List.getElem_of_mem hx
  have:=h i (List.mem_range.mpr hi)
  rw[List.getD_eq_getElem?_getD,List.getElem?_eq_getElem hi] at this
  rw[←e]
  exact this
 ·intro h i hi
  have hi':=List.mem_range.mp hi
  rw[List.getD_eq_getElem?_getD,List.getElem?_eq_getElem hi']
  exact h _ (List.getElem_mem hi')
theorem gR (hc:X.calm=true):vC X (.builtin "all") (fun xs H Q=>∃(p:Addr) (bs:List Bool),xs=[.ref p]∧qD X.K H p (bs.map V.bl)∧Q (.bl (bs.all id)) H):=by
 intro pins s σ H xs us Q I r h
 obtain⟨p,bs,rfl,hq,q⟩:=h
 obtain⟨u,rfl,ru⟩:=vals1 r
 cases ru
 obtain⟨its,rv,pl,_⟩:=I.list hq
 have hl:=rv.length
 rw[List.length_map] at hl
 refine call_all_walk (wpAny_pyIter_list pl.isList ?_)
 have hne:p≠s.heap.objs.size:=Nat.ne_of_lt (by obtain⟨o,n,e,_⟩:=pl;exact Heap.lt_size e)
 refine⟨s.heap.objs.size,_,_,_,_,_,fun i=>bs.getD i true,rfl,Walks.list (show X.A.in1.handled=none from I.ok.hd hc) s.heap.objs.size p hne its.toArray,⟨⟨_,Heap.get?_push_size _ rfl,rfl,rfl⟩,?_⟩,?_,?_⟩
 ·obtain⟨o,e,rest⟩:=pl.isList
  exact⟨o,Heap.get?_push_of_some _ e,rest⟩
 ·intro i v s' Q' E' hv hQ'
  have hv':its[i]?=some v:=by simpa using hv
  have hi:i < bs.length:=by rw[hl];exact(List.getElem?_eq_some_iff.mp hv').1
  obtain⟨u,e1,e2⟩:=rv.get (i:=i) (x:=V.bl bs[i]) (by rw[List.getElem?_map,List.getElem?_eq_getElem hi];rfl)
  rw[hv'] at e1
  cases e1
  cases e2
  dsimp only at hQ'
  rw[List.getD_eq_getElem?_getD,List.getElem?_eq_getElem hi] at hQ'
  exact wpAny_truthy_bool hQ'
 ·intro h' tk kk
  have I1:Inv X pins σ H { s with heap:=h',toks:=tk }:=I.kept fun b o e=>kk b o (by
   intro z
   have z':b=s.heap.objs.size:=by simpa using z
   exact absurd (Heap.lt_size e) (by rw[z'];exact Nat.lt_irrefl _)) (Heap.get?_push_of_some _ e)
  refine⟨.bl _,H,I1,?_,q⟩
  show Value.bool _=Value.bool _
  rw[List.size_toArray,←hl,range_all]
mutual
inductive dg (K:PySem.W.Frag) (H:Hp):V→PyData→Prop where
 | non:dg K H .non .none
 | bl (b:Bool):dg K H (.bl b) (.bool b)
 | int (i:Int):dg K H (.int i) (.int i)
 | str (x:Str):dg K H (.str x) (.str x)
 | lst {a:Addr} {xs:List V} {ds:List PyData}:qD K H a xs→yv K H xs ds→dg K H (.ref a) (.list ds)
 | tup {a:Addr} {xs:List V} {ds:List PyData}:yy K H a xs→yv K H xs ds→dg K H (.ref a) (.tuple ds)
inductive yv (K:PySem.W.Frag) (H:Hp):List V→List PyData→Prop where
 | nil:yv K H [] []
 | cons {x:V} {xs:List V} {d:PyData} {ds:List PyData}:dg K H x d→yv K H xs ds→yv K H (x :: xs) (d :: ds)
end
mutual
theorem dg.reads {pins:List (Addr × Obj)} {σ:St} {H:Hp} {s:Shared} (I:Inv X pins σ H s):∀{x:V} {d:PyData} {v:Value},dg X.K H x d→RelV x v→∃as,Reads s.heap v d as
 | _,_,_,.non,r=>by cases r;exact⟨_,.none⟩
 | _,_,_,.bl b,r=>by cases r;exact⟨_,.bool b⟩
 | _,_,_,.int i,r=>by obtain⟨t,rfl⟩:=r;exact⟨_,.int i t⟩
 | _,_,_,.str x,r=>by obtain⟨t,rfl⟩:=r;exact⟨_,.str x t⟩
 | _,_,_,.lst hq rs,r=>by
  cases r
  obtain⟨its,rv,pl,_⟩:=I.list hq
  obtain⟨as,ra⟩:=yv.reads I rs rv
  obtain⟨o,n,e,c,_,d⟩:=pl
  exact⟨_,.list e c d (by simpa using ra)⟩
 | _,_,_,.tup hq rs,r=>by
  cases r
  obtain⟨its,rv,pl,_⟩:=I.tuple hq
  obtain⟨as,ra⟩:=yv.reads I rs rv
  obtain⟨o,e,c,n,d⟩:=pl
  exact⟨_,.tuple e c d (by simpa using ra)⟩
theorem yv.reads {pins:List (Addr × Obj)} {σ:St} {H:Hp} {s:Shared} (I:Inv X pins σ H s):∀{xs:List V} {ds:List PyData} {vs:List Value},yv X.K H xs ds→Vals xs vs→∃as,ReadsAll s.heap vs ds as
 | _,_,_,.nil,r=>by cases r;exact⟨_,.nil⟩
 | _,_,_,.cons q qs,r=>by
  cases r with
  | cons r rs=>
   obtain⟨as,ra⟩:=dg.reads I q r
   obtain⟨bs,rb⟩:=yv.reads I qs rs
   exact⟨_,.cons ra rb⟩
end
noncomputable def VF (K:PySem.W.Frag) (neg:Bool):R2:=fun x y H Q=>∃d e,dg K H x d∧dg K H y e∧SeqAt.shaped d=true∧SeqAt.shaped e=true∧Q (.bl (if neg then !PyData.eqv d e else PyData.eqv d e)) H
theorem Yx (hu:X.A.units + 64 < cLine):pB X (compareOp .Eq) (VF X.K false):=by
 intro pins s σ H x y v u Q I rx ry h
 obtain⟨d,e,h1,h2,h3,h4,q⟩:=h
 obtain⟨as,ra⟩:=h1.reads I rx
 obtain⟨bs,rb⟩:=h2.reads I ry
 exact eq_dataH ra rb h3 h4 hu ⟨.bl _,H,I,rfl,q⟩
theorem Yk (hu:X.A.units + 64 < cLine):pB X (compareOp .NotEq) (VF X.K true):=by
 intro pins s σ H x y v u Q I rx ry h
 obtain⟨d,e,h1,h2,h3,h4,q⟩:=h
 obtain⟨as,ra⟩:=h1.reads I rx
 obtain⟨bs,rb⟩:=h2.reads I ry
 exact ne_dataH ra rb h3 h4 hu ⟨.bl _,H,I,rfl,q⟩
theorem yv.strs {K:PySem.W.Frag} {H:Hp}:∀xs:List Str,yv K H (xs.map V.str) (xs.map PyData.str)
 | []=>.nil
 | x :: r=>.cons (.str x) (yv.strs r)
theorem eqvAll_map {α : Type} [DecidableEq α] {f : α → PyData} (hf : ∀ x y, PyData.eqv (f x) (f y) = decide (x = y)) (xs : List α) : ∀ ys : List α, PyData.eqvAll (xs.map f) (ys.map f) = decide (xs = ys) := by
  induction xs with
  | nil => intro ys; cases ys <;> simp [PyData.eqvAll]
  | cons x r ih =>
    intro ys
    cases ys
    · simp [PyData.eqvAll]
    · simp [PyData.eqvAll, hf, ih]
theorem pU (xs ys : List Str) : PyData.eqvAll (xs.map PyData.str) (ys.map PyData.str) = decide (xs = ys) := eqvAll_map (fun x y => by rw [PyData.eqv]; by_cases h : x = y <;> simp [h]) xs ys
theorem pF:∀xs:List Str,(∀x∈xs,PyData.strOk x=true)→PyData.canLayAll0 (xs.map PyData.str)=true∧PyData.depthAll (xs.map PyData.str)=0
 | [],_=>⟨rfl,rfl⟩
 | x :: r,h=>by
  have q:=pF r fun y hy=>h y (List.mem_cons_of_mem _ hy)
  simp [PyData.canLayAll0,PyData.canLay0,PyData.depthAll,PyData.depth,q.1,q.2,h x List.mem_cons_self]
theorem kA {xs:List Str} (h:∀x∈xs,PyData.strOk x=true):SeqAt.shaped (.list (xs.map PyData.str))=true:=by
 have q:=pF xs h
 simp [SeqAt.shaped,PyData.canLay0,PyData.depth,q.1,q.2]
end
section
variable {X:Cx} {CX:sQ} {k:Nat} {f C:Addr} {fd:FuncData} {ps:List Str} {sp:Sp} {dvs:List V} {ds:List Value} {E:XK} {x m:Str} {p pos apos:Pos} {e:Expr} {es:List Expr} {t:TA}
structure JH (K:PySem.W.Frag) (C:Addr) (m:Str) (f:Addr):Prop where
 ga:PySem.W.specialIn K (.ref C) "__getattribute__" = some (some (.builtin "type.__getattribute__"))
 rd:PySem.W.readsIn K C (.type "type")=true
 at_:PySem.W.findCls K (.ref C) (.type "type") m=some (.val (.ref f))
 kp:PySem.W.keepIn K (.ref f)=true
theorem lF {pl:Sem Bool} (hg:Gl X x) (hm:X.mg x=some (.ref C)) (c:JH X.K C m f) (F:qi X.prog X.w X.K X.mg X.base CX k f fd ps sp) (hr:vJ k X.A) (hb:Binds X.K fd ps ds) (hd:Vals dvs ds) (hx:Passes CX X E) (ha:PA X (e :: es) t)
  (hst:starEach (e :: es) X.env=(false,eval e X.env) :: starEach es X.env:=by rfl) (hpl:(backTo pos (starEach es X.env)).any (·.1)=false:=by rfl) (hdb:(x == ("__debug__" : Str))=false:=by decide)
  (ht:eval (.Call (.Attribute (.Name x p) m apos) (e :: es) [] pos) X.env=(do
   let ov ←eval (.Name x p) X.env
   standAt apos.atName
   let (f,first) ←holding [ov] (getMethod ov m pl)
   callWith pos f first (backTo pos (starEach (e :: es) X.env)) (backToKw pos (keywordEach [] X.env))):=by rfl) :
  PE X (.Call (.Attribute (.Name x p) m apos) (e :: es) [] pos) (Wi sp dvs E t):=by
 intro pins s σ H Q I h
 refine PySem.W.methodCall_KW (pl:=pl) (fO I hg hm ?_ hdb) ht
 refine PySem.W.method_cls I.pY c.ga (PySem.W.cls_value I.pY c.rd c.at_ rfl ?_)
 refine PySem.W.callWith_K (first:=[]) (h₀:=X.base) I.ok.mod.Xf c.kp (xl (ha pos pins _ σ H _ (I.tok _) h) fun us s1 ⟨vs,H1,I1,r,q⟩=>⟨I1.pY,?_⟩) hst hpl
 exact oB F hr hb hd hx I1 r q
end
end L2
namespace L2
open PySem PySem.Spec PyProof.Rows
noncomputable def jf (env:Env):List (Str × NameKind)→List (Str × Addr)→List (Str × Addr)
 | [],acc=>acc
 | (n,k) :: r,acc=>jf env r (if k == .free then (n,(env.cells.lookup n).getD 0) :: acc else acc)
theorem mf {sc:Scope} {env:Env} (h:∀y∈sc.names,y.2=.free→∃c,env.cells.lookup y.1=some c):closureFor sc env=pure (jf env sc.names []):=by
 simp only[closureFor]
 have key:∀(l:List (Str × NameKind)) (acc:List (Str × Addr)),(∀y∈l,y.2=.free→∃c,env.cells.lookup y.1=some c)→
   (forIn l acc (fun (x:Str × NameKind) (r:List (Str × Addr))=>if (x.2 == NameKind.free)=true then do let a ←cellOf env x.1;pure (ForInStep.yield ((x.1,a) :: r)) else pure (ForInStep.yield r)):Sem (List (Str × Addr)))=pure (jf env l acc):=by
  intro l
  induction l with
  | nil=>intro acc _;rfl
  | cons y r ih=>
   intro acc hl
   obtain⟨n,k⟩:=y
   rw[List.forIn_cons]
   have ih':=fun acc=>ih acc fun z hz=>hl z (List.mem_cons_of_mem _ hz)
   by_cases hk:(k == NameKind.free)=true
   ·obtain⟨c,hc⟩:=hl (n,k) List.mem_cons_self (by simpa using hk)
    have hc':env.cells.lookup n=some c:=hc
    have e1:cellOf env n=pure c:=by unfold cellOf;rw[hc']
    simp only[hk,if_true,e1,jf,hc',Option.getD_some]
    exact ih' _
   ·simp only[hk,jf]
    exact ih' _
 rw[key sc.names [] h]
 rfl
theorem vG {env:Env}:∀(l:List (Str × NameKind)) (acc:List (Str × Addr)),(∀z c,acc.lookup z=some c→c=(env.cells.lookup z).getD 0)→
  (∀z c,(jf env l acc).lookup z=some c→c=(env.cells.lookup z).getD 0)∧(∀z,(jf env l acc).lookup z=none↔(acc.lookup z=none∧(z,NameKind.free)∉l))
 | [],acc,h=>⟨h,fun z=>by simp [jf]⟩
 | (n,k) :: r,acc,h=>by
  by_cases hk:(k == NameKind.free)=true
  ·have hk':k=.free:=by simpa using hk
   subst hk'
   have h':∀z c,((n,(env.cells.lookup n).getD 0) :: acc).lookup z=some c→c=(env.cells.lookup z).getD 0:=by
    intro z c e
    rw[List.lookup_cons] at e
    cases hz:z == n with
    | true=>
     rw[hz] at e
     have e':(env.cells.lookup n).getD 0=c:=by simpa using e
     rw[beq_iff_eq.mp hz,e']
    | false=>
     rw[hz] at e
     exact h z c (by simpa using e)
   obtain⟨a,b⟩:=vG r _ h'
   refine⟨by simpa [jf] using a,fun z=>?_⟩
   have b':=b z
   show (jf env r (if (NameKind.free == NameKind.free)=true then _ else acc)).lookup z=none↔_
   rw[if_pos hk,b',List.lookup_cons]
   cases hz:z == n with
   | true=>
    have:z=n:=beq_iff_eq.mp hz
    subst this
    simp
   | false=>
    have hne:z≠n:=by intro q;subst q;simp at hz
    simp [hne]
  ·obtain⟨a,b⟩:=vG r acc h
   have e0:jf env ((n,k) :: r) acc=jf env r acc:=by
    show jf env r (if (k == NameKind.free)=true then _ else acc)=_
    rw[if_neg hk]
   rw[e0]
   refine⟨a,fun z=>?_⟩
   rw[b z]
   have hne:¬(NameKind.free=k):=by intro q;subst q;exact hk rfl
   simp [hne]
/-- a map that W2 the keys alone changes what stands behind a key, and nothing else -/
theorem lookup_vals {α β : Type} {f : Str × α → Str × β} (hf : ∀ p, (f p).1 = p.1) (x : Str) (l : List (Str × α)) : (l.map f).lookup x = (l.lookup x).map fun k => (f (x, k)).2 := by
  induction l with
  | nil => rfl
  | cons p r ih =>
    obtain ⟨n, k⟩ := p
    have e : f (n, k) = (n, (f (n, k)).2) := Prod.ext (hf _) rfl
    rw [List.map_cons, e]
    by_cases q : x = n
    · subst q
      simp [List.lookup_cons]
    · simp [List.lookup_cons, beq_false_of_ne q, ih]
theorem kU {env : Env} {sc : Scope} {x : Str} : (relabel sc env).names.lookup x = (sc.names.lookup x).map fun k => if k == .free && env.scope.kind == .function && env.kindOf x == some .cell then .cell else k := by
  show (List.map _ sc.names).lookup x = _
  rw [lookup_vals (fun p => by dsimp only; split <;> rfl)]
  congr 1
  funext k
  dsimp only
  split <;> rfl
structure gO (osc:Scope) (N:List Str) (sc:Scope) (x:Str) (names:List Str) (qN:List Nat):Prop where
 kind:sc.kind=.function
 lK:∀y∈sc.names,y.2≠.cell
 locs:∀y∈sc.names,y.2=.local→sc.names.lookup y.1=some .local
 frees:∀y∈sc.names,y.2=.free→osc.names.lookup y.1=some .cell
 own:sc.names.lookup x=some .local
 qN:names.map some=qN.map fun i=>N[i]?
 aM:∀y∈names,sc.names.lookup y=some .free
 nd:(x :: names).Nodup
noncomputable def ye (X:Cx) (sc:Scope) (x:Str) (names:List Str) (fp:List Addr) (s₀:Shared) (H₀:Hp):Cx where
 prog:=X.prog
 w:=X.w
 K:=X.K
 mg:=X.mg
 base:=X.base
 A:=X.A
 N:=x :: names
 s₀:=s₀
 H₀:=H₀
 env:=compEnvC sc (jf X.env sc.names []) s₀.heap.objs.size X.env
 outer:=X.stack
 stack:=X.stack
 ex:=fp
 fn:=fun _=>false
 calm:=X.calm
 pn:=[]
 xe:=fun _ _=>False
noncomputable def yi (σ:St) (qN:List Nat):St:=qN.map fun i=>(σ[i]?).join
noncomputable def JB (J:It) (qN:List Nat) (te:TE) (σ:St) (Q:VK) (H1:Hp):Prop:=∀D,H1 D=none→∃W:Nat→Nat→Hp→Prop,(∃m,W 0 m (upd H1 D (.lst [])))∧∀i m H2,W i m H2→
 (J.stop i H2∧Q (.ref D) H2)∨(J.go i H2∧∀y H3,J.K1 i H2 y H3→te (some y :: yi σ qN) H3 fun v H4=>∃ys,H4 D=some (.lst ys)∧ys.length < sizeLine∧∃m',m' < m∧W (i + 1) m' (upd H4 D (.lst (ys ++ [v]))))
noncomputable def We (qN:List Nat) (wi:TI) (te:TE):TE:=fun σ H Q=>wi σ H fun J H1=>JB J qN te σ Q H1
/-- what comes behind what is known of a first step -/
theorem sq2 {M : Model} {A : Around} {E : Value → Shared → Prop} {s : Shared} {α β : Type} {x : Sem α} {f : α → Sem β} {Q1 : α → Shared → Prop} {Q : β → Shared → Prop} (h : wpAny M A x Q1 E s) (k : ∀ a s1, Q1 a s1 → wpAny M A (f a) Q E s1) : wpAny M A (x >>= f) Q E s := wpAny_bind (xl h k)
/-- a step of a comprehension's turn: what it raises is noted in the comprehension's own frame -/
abbrev Noted (prog : Program) (w : World) (A : Around) (env : Env) (R : Result → Shared → Prop) {α : Type} (x : Sem α) (Q : α → Shared → Prop) (s : Shared) : Prop := wpAny (model prog w) A x Q (notedBy (model prog w) A env fun e => R (.error e)) s
abbrev testB (env : Env) (c : Expr) (r : Bool) : Sem (ForInStep Bool) := if r = true then isTrue c env (eval c env) >>= fun ok => pure (.yield ok) else pure (.yield r)
section
variable {prog:Program} {w:World} {A:Around} {R:Result→Shared→Prop} {s:Shared}
theorem iW {el tg src : Expr} {scope : Scope} {pos : Pos} {it acc : Value} {env : Env} (I : Nat → Shared → Prop)
    (turn : ∀ n s, I n s → Noted prog w A env R (pyNext it) (fun r s1 => match r with
      | none => R (.ok .next) s1
      | some v => Noted prog w A env R (letOwnedTupleGo tg it v) (fun _ => Noted prog w A env R (assign tg env v) fun _ => Noted prog w A env R (eval el env) fun x => Noted prog w A env R (call (.builtin "list.append") [acc, x]) fun _ s5 => ∃ m, m < n ∧ I m s5) s1) s) (n : Nat) (h : I n s) :
    codeAny (model prog w) A (.compLoop (.ListComp el [⟨tg, src, [], 0⟩] scope pos) 0 it acc env) R s := by
  refine codeAny_loop rfl I (fun k s1 hI => (?_ : wpAny _ _ (Sem.onRaise _ _) _ _ _)) n h
  refine wpAny_noted (compTurn_list .. ▸ wpAny_bind (wpAny_standAt (sq2 (turn k s1 hI) fun r s2 hr => ?_)))
  cases r
  · exact wpAny_pure hr
  · exact sq2 hr fun _ _ a => sq2 a fun _ _ b => wpAny_bind (wpAny_tests_nil (sq2 (sq2 b fun _ _ c => sq2 c fun _ _ d => wpAny_pure d) fun _ _ e => wpAny_pure ⟨rfl, e⟩))
end
section
variable {X:Cx}
theorem WH {pins:List (Addr × Obj)} {σ:St} {H:Hp} {s:Shared} {osc:Scope} {N:List Str} {sc:Scope} {x:Str} {names:List Str} {qN:List Nat} {fp:List Addr}
  (hos:X.env.scope=osc) (cs:gO osc N sc x names qN) (I:Inv X pins σ H s) (hf:∀b∈fp,gD X pins H b) (hlt:∀b∈fp,b < s.heap.objs.size):(ye X sc x names fp s H).Ok:=by
 subst hos
 have cl:=vG (env:=X.env) sc.names [] (fun z c e=>by simp at e)
 have hcl:∀y c,(jf X.env sc.names []).lookup y=some c→X.env.cells.lookup y=some c:=fun y c e=>by
  have e1:=cl.1 y c e
  have hm:(y,NameKind.free)∈sc.names:=by
   by_cases q:(y,NameKind.free)∈sc.names
   ·exact q
   ·have:=(cl.2 y).mpr ⟨rfl,q⟩
    rw[this] at e;cases e
  obtain⟨c',hc'⟩:=I.ok.has y (.inl (cs.frees _ hm rfl))
  rw[hc'] at e1 ⊢
  rw[e1];rfl
 refine⟨I.ok.mod,?_,I.ok.glob,I.ok.blt,Nat.le_refl _,fun y z c h1 h2=>I.ok.inj y z c (hcl y c h1) (hcl z c h2),fun y hy=>?_,fun y c h=>?_,I.ok.hd,I.ok.frames,.inl rfl,fun b hb=>⟨?_,fun y c h=>?_⟩,
  I.bs,Nat.le_trans I.ok.JV I.sz,fun b o e hb=>?_,fun b hb z=>?_,I.stack,I.cG⟩
 ·exact cs.kind
 ·have hy':(relabel sc X.env).names.lookup y=some .cell∨(relabel sc X.env).names.lookup y=some .free:=hy
  have key:sc.names.lookup y=some .free:=by
   rw[kU] at hy'
   cases q:sc.names.lookup y with
   | none=>rw[q] at hy';simp at hy'
   | some k=>
    rw[q] at hy'
    have hm:=PySem.mem_of_lookup q
    have hnc:=cs.lK _ hm
    by_cases hk:k=.free
    ·rw[hk]
    ·have e:(if (k == NameKind.free && X.env.scope.kind == .function && X.env.kindOf y == some .cell)=true then NameKind.cell else k)=k:=if_neg (by simp [hk])
     rw[Option.map_some,e] at hy'
     rcases hy' with z | z
     ·exact absurd (Option.some.inj z) hnc
     ·exact absurd (Option.some.inj z) hk
  have hm:=PySem.mem_of_lookup key
  cases q:(jf X.env sc.names []).lookup y with
  | some c=>exact⟨c,q⟩
  | none=>exact absurd hm ((cl.2 y).mp q).2
 ·exact absurd (show false=true from h) (by simp)
 ·exact Nat.ne_of_lt (hlt b hb)
 ·exact(hf b hb).2.2.2.2.1 y c (hcl y c h)
 ·rcases(hf b hb).2.2.2.1 with z | z
  ·exact I.ok.Q6 b o e z
  ·exact absurd (Nat.lt_of_lt_of_le (Heap.lt_size e) (Nat.le_trans I.ok.JV z)) (Nat.lt_irrefl _)
 ·rcases List.mem_cons.mp (I.sy b z) with q | q
  ·exact(hf b hb).2.1 q
  ·exact(hf b hb).2.2.1 q
theorem iY {pins:List (Addr × Obj)} {σ:St} {s₂:Shared} {osc:Scope} {N:List Str} {sc:Scope} {x:Str} {px pos:Pos} {elt iter:Expr} {names:List Str} {qN:List Nat} {te:TE} {E:Value→Shared→Prop}
  {RR:Value→Addr→Result→Shared→Prop} {H2:Hp} {it:Addr} {fp:List Addr} {tn:Nat→Heap→Prop} {J:It} {Qd:V→Hp→Prop}
  (hc:X.calm=true) (hos:X.env.scope=osc) (hN:X.N=N) (cs:gO osc N sc x names qN) (he:∀fp s₀ H₀,PE (ye X sc x names fp s₀ H₀) elt te)
  (I2:Inv X pins σ H2 s₂) (T:Turn X.prog X.w X.K (.Name x px) J fp it tn) (st2:tn 0 s₂.heap) (f2:∀b∈fp,gD X pins H2 b)
  (hW:JB J qN te σ Qd H2)
  (cont:∀D C H5 s6 m,Inv X pins σ H5 s6→s6.heap.Ns C m→gD X pins H5 C→Qd (.ref D) H5→RR (.ref D) C (.ok .next) s6) :
  wpAny (model X.prog X.w) X.A (newList []) (fun acc s₃=>wpAny (model X.prog X.w) X.A (newFunctionEnv sc X.env.globals (jf X.env sc.names []) [] X.env.qual none .none (some X.env)) (fun cenv s₄=>
   codeAny (model X.prog X.w) X.A (.compStart (.ListComp elt [⟨.Name x px,iter,[],0⟩] sc pos) 0 (.ref it) acc { cenv with scope:=relabel sc X.env }) (RR acc cenv.locals) s₄) E s₃) E s₂:=by
 subst hN
 refine wpAny_newObj_type (wpAny_newFunctionEnv cs.lK (by intro y hy;simp at hy) (fun h₁ hns₁ hsb₁=>?_) cs.kind)
 dsimp only at hns₁ hsb₁ ⊢
 have fp2:∀b∈fp,b < s₂.heap.objs.size:=fun b hb=>by
  obtain⟨o,e,_⟩:=T.obj _ _ st2 b hb
  exact Heap.lt_size e
 have I3:Inv X pins σ (upd H2 s₂.heap.objs.size (.lst [])) { s₂ with heap:=s₂.heap.push { cls:=.type "list",dict:=none,data:=.seq ([]:List Value).toArray } }:=I2.Xs (t':=s₂.toks) (its:=[]) .nil (Nat.zero_le _)
 obtain⟨W,⟨m0,w0⟩,turn⟩:=hW s₂.heap.objs.size I2.fresh
 have f3:∀b∈fp,gD X pins (upd H2 s₂.heap.objs.size (.lst [])) b:=fun b hb=>⟨by rw[qB (Nat.ne_of_lt (fp2 b hb))];exact(f2 b hb).1,(f2 b hb).2⟩
 have hD:∀b o,s₂.heap.get? b=some o→(s₂.heap.push { cls:=.type "list",dict:=none,data:=.seq ([]:List Value).toArray }).get? b=some o:=fun b o e=>Heap.get?_push_of_some _ e
 generalize hs3:({ s₂ with heap:=s₂.heap.push { cls:=.type "list",dict:=none,data:=.seq ([]:List Value).toArray } }:Shared)=s₃ at *
 have hs3h:s₃.heap=s₂.heap.push { cls:=.type "list",dict:=none,data:=.seq ([]:List Value).toArray }:=by rw[←hs3]
 rw[←hs3h] at hns₁ hsb₁ hD ⊢
 have nA:∀b∈fp,b < s₃.heap.objs.size:=fun b hb=>by
  rw[hs3h,Heap.size_push];exact Nat.lt_succ_of_lt (fp2 b hb)
 have k3:∀b o,s₃.heap.get? b=some o→h₁.get? b=some o:=fun b o e=>hsb₁.extBut b o (Nat.ne_of_lt (Heap.lt_size e)) (Heap.get?_push_of_some _ e)
 have ok:=WH hos cs I3 f3 nA
 have cl:=vG (env:=X.env) sc.names [] (fun z c e=>by simp at e)
 have hcl:∀y c,(jf X.env sc.names []).lookup y=some c→X.env.cells.lookup y=some c:=fun y c e=>by
  have e1:=cl.1 y c e
  have hm:(y,NameKind.free)∈sc.names:=by
   by_cases q:(y,NameKind.free)∈sc.names
   ·exact q
   ·have:=(cl.2 y).mpr ⟨rfl,q⟩
    rw[this] at e;cases e
  obtain⟨c',hc'⟩:=I3.ok.has y (.inl (by show X.env.scope.names.lookup y=_;rw[hos];exact cs.frees _ hm rfl))
  rw[hc'] at e1 ⊢
  rw[e1];rfl
 have cell4:∀y c,(jf X.env sc.names []).lookup y=some c→∀v,s₃.heap.IsCell c v→h₁.IsCell c v:=fun y c e v ⟨o,ho,hd⟩=>⟨o,k3 _ _ ho,hd⟩
 have lenC:qN.length=names.length:=by have:=congrArg List.length cs.qN;simpa using this.symm
 have I4:∀tk,Inv (ye X sc x names fp s₃ (upd H2 s₂.heap.objs.size (.lst []))) [] (none :: yi σ qN) (upd H2 s₂.heap.objs.size (.lst [])) { s₃ with heap:=h₁,toks:=tk }:=fun tk=>by
  refine⟨ok,rfl,I3.bare,Un.kept k3,⟨_,hns₁,fun i y v e1 e2 e3=>?_⟩,fun y c e=>?_,I3.fresh,fun y c e=>I3.pk y c (hcl y c e),fun p hp=>absurd (show p∈([]:List (Addr × Obj)) from hp) (by simp),I3.jc.kept k3,?_⟩
  ·cases i with
   | zero=>simp at e2
   | succ j=>
    have e1':names[j]?=some y:=by simpa [ye] using e1
    have e2':(yi σ qN)[j]?=some (some v):=by simpa using e2
    unfold yi at e2'
    rw[List.getElem?_map] at e2'
    cases qc:qN[j]? with
    | none=>rw[qc] at e2';cases e2'
    | some i0=>
     rw[qc] at e2'
     have e2'':(σ[i0]?).join=some v:=by simpa using e2'
     have e3':σ[i0]?=some (some v):=by
      cases qs:σ[i0]? with
      | none=>rw[qs] at e2'';cases e2''
      | some o=>rw[qs] at e2'';rw[show o=some v from by simpa using e2'']
     have eN:X.N[i0]?=some y:=by
      have q1:(names.map some)[j]?=(qN.map fun i=>X.N[i]?)[j]?:=by rw[cs.qN]
      rw[List.getElem?_map,List.getElem?_map,e1',qc] at q1
      have q2:some y=X.N[i0]?:=by simpa using q1
      exact q2.symm
     have hfree:=cs.aM y (List.mem_of_getElem? e1')
     have hm:=PySem.mem_of_lookup hfree
     have hcell:X.env.scope.names.lookup y=some .cell:=by rw[hos];exact cs.frees _ hm rfl
     obtain⟨m,hn,hl⟩:=I3.loc
     obtain⟨u,ru,lk⟩:=hl i0 y v eN e3' (.inr (.inl hcell))
     refine⟨u,ru,?_⟩
     rcases lk with ⟨kk,_⟩ | ⟨kk,c,ec,hcl'⟩
     ·have kk':X.env.scope.names.lookup y=some .local:=kk
      rw[hcell] at kk';cases kk'
     ·refine .inr ⟨?_,c,?_,?_⟩
      ·left
       show (relabel sc X.env).names.lookup y=some .cell
       rw[kU,hfree]
       have ef:(X.env.scope.kind == ScopeKind.function)=true:=by rw[I3.ok.kind];rfl
       have ek:(X.env.kindOf y == some NameKind.cell)=true:=by
        show (X.env.scope.names.lookup y == some NameKind.cell)=true
        rw[hcell];rfl
       simp [ef,ek]
      ·show (jf X.env sc.names []).lookup y=some c
       cases q:(jf X.env sc.names []).lookup y with
       | none=>exact absurd hm ((cl.2 y).mp q).2
       | some c'=>
        have:=hcl y c' q
        rw[ec] at this
        exact this.symm
      ·obtain⟨o,ho,hd⟩:=hcl'
       exact⟨o,k3 _ _ ho,hd⟩
  ·obtain⟨v,hv⟩:=I3.cell y c (hcl y c e)
   exact⟨v,cell4 y c e v hv⟩
  ·show (none :: yi σ qN).length=(x :: names).length
   unfold yi
   simp [lenC]
 have st4:tn 0 h₁:=T.keep _ _ _ st2 fun b hb o e=>k3 b o (by rw[hs3h];exact Heap.get?_push_of_some _ e)
 have fpok:∀{H':Hp},(∀b∈fp,H' b=none)→∀b∈fp,gD (ye X sc x names fp s₃ (upd H2 s₂.heap.objs.size (.lst []))) [] H' b:=fun hn b hb=>
  ⟨hn b hb,(ok.YI b hb).1,ok.QM b hb,.inl hb,(ok.YI b hb).2,fun p hp=>absurd (show p∈([]:List (Addr × Obj)) from hp) (by simp)⟩
 have loop:∀s₄:Shared,s₄={ s₃ with heap:=h₁,toks:=s₃.toks + ([]:List (Str × Value)).length }→
   codeAny (model X.prog X.w) X.A (.compLoop (.ListComp elt [⟨.Name x px,iter,[],0⟩] sc pos) 0 (.ref it) (.ref s₂.heap.objs.size) (compEnvC sc (jf X.env sc.names []) s₃.heap.objs.size X.env))
    (RR (.ref s₂.heap.objs.size) s₃.heap.objs.size) s₄:=by
  rintro s₄ rfl
  refine iW (fun n s'=>∃i H',Inv (ye X sc x names fp s₃ (upd H2 s₂.heap.objs.size (.lst []))) [] (none :: yi σ qN) H' s'∧tn i s'.heap∧(∀b∈fp,H' b=none)∧W i n H') ?_ m0
   ⟨0,_,I4 _,st4,fun b hb=>(f3 b hb).1,w0⟩
  rintro n s5 ⟨i,H5,I5,st5,fr5,w5⟩
  rcases turn i n H5 w5 with ⟨stop,q⟩ | ⟨go,step⟩
  ·refine xl (T.done (ye X sc x names fp s₃ (upd H2 s₂.heap.objs.size (.lst []))) rfl rfl rfl hc i [] s5 _ H5 _ I5 (fpok fr5) st5 stop) fun r s6 ⟨hr,I6⟩=>?_
   subst hr
   obtain⟨m,hn,_⟩:=I6.loc
   have J6:Inv X pins σ H5 s6:=I3.JO (ch:=fp) I6.os I6.base I6.jc I6.bare fun b hb=>⟨(f3 b hb).2.2.2.1,(f3 b hb).2.1,(f3 b hb).2.2.2.2.1,(f3 b hb).2.2.2.2.2⟩
   exact cont _ _ H5 s6 m J6 hn (I3.QR (H':=H5) (Nat.le_refl _) I6.free) q
  ·refine xl (T.item (ye X sc x names fp s₃ (upd H2 s₂.heap.objs.size (.lst []))) rfl rfl rfl hc i [] s5 _ H5 _ I5 (fpok fr5) st5 go) fun r s6 ⟨u,hr,h6⟩=>?_
   subst hr
   refine xl h6 fun _ s6' ⟨y,H6,I6,r6,y6,st6,fr6⟩=>?_
   have I6':=I6.pinned (fpok fr6) (T.obj _ _ st6)
   have own':(relabel sc X.env).names.lookup x=some .local:=lookup_relabel_local cs.own
   refine wpAny_mono (jC (X:=ye X sc x names fp s₃ (upd H2 s₂.heap.objs.size (.lst []))) (i:=0) (x:=x) (pos:=px) cs.nd rfl (.inl own') (.inr own') _ s6' _ H6 y u (fun σ' H'=>σ'=(none :: yi σ qN).set 0 (some y)∧H'=H6) I6' r6 ⟨rfl,rfl⟩)
    (fun _ s7 ⟨σ7,H7,I7,e7,e7'⟩=>?_) fun _ _ z=>False.elim z
   subst e7 e7'
   refine wpAny_mono (he fp s₃ _ _ s7 _ H7 _ I7 (step y H7 y6)) (fun v s8 ⟨vv,H8,I8,r8,ys,hD8,hz8,m',hm',w8⟩=>?_) fun _ _ z=>False.elim z
   refine wpAny_mono (cI (X:=ye X sc x names fp s₃ (upd H2 s₂.heap.objs.size (.lst []))) _ s8 _ H8 (.ref s₂.heap.objs.size) [vv] (.ref s₂.heap.objs.size) [v] (fun _ H'=>H'=upd H8 s₂.heap.objs.size (.lst (ys ++ [vv]))) I8 rfl (.cons r8 .nil)
    ⟨_,ys,vv,rfl,rfl,hD8,hz8,rfl⟩) (fun _ s9 ⟨_,H9,I9,_,e9⟩=>?_) fun _ _ z=>False.elim z
   subst e9
   refine⟨m',hm',i + 1,_,(I9.gf).weak ?_ ?_,T.keep _ _ _ st6 fun b hb o e=>(I9.pin (b,o) (List.mem_append_right _ (List.mem_append_right _ (wF hb e)))).1,fun b hb=>?_,w8⟩
   ·simp
   ·intro j v' ej
    cases j with
    | zero=>simp at ej
    | succ j=>simpa using ej
   ·obtain⟨o,e,d⟩:=T.obj _ _ st6 b hb
    exact(I9.pin (b,o) (List.mem_append_right _ (List.mem_append_right _ (wF hb e)))).2.1
 exact codeAny_compStart_list (loop _ (by rw[←hs3])) (T.self _ 0 _ _ _ st4 (loop _ (by rw[←hs3])))
theorem tX {pins:List (Addr × Obj)} {σ:St} {H:Hp} {s:Shared} {osc:Scope} {N:List Str} {sc:Scope} {x:Str} {names:List Str} {qN:List Nat} (hos:X.env.scope=osc) (cs:gO osc N sc x names qN) (I:Inv X pins σ H s) :
  closureFor sc X.env=pure (jf X.env sc.names []):=
 mf fun y hy hk=>I.ok.has y.1 (.inl (by show X.env.scope.names.lookup y.1=_;rw[hos];exact cs.frees y hy hk))
theorem cm {osc:Scope} {N:List Str} {sc:Scope} {x:Str} {px pos:Pos} {elt iter:Expr} {names:List Str} {qN:List Nat} {wi:TI} {te:TE}
  (hc:X.calm=true) (hos:X.env.scope=osc) (hN:X.N=N) (cs:gO osc N sc x names qN) (hi:PI X (.Name x px) iter wi) (he:∀fp s₀ H₀,PE (ye X sc x names fp s₀ H₀) elt te)
  (hs:∀v,foldedSetIterable iter X.env v=pure v:=by intro _;rfl):PE X (.ListComp elt [⟨.Name x px,iter,[],0⟩] sc pos) (We qN wi te):=by
 intro pins s σ H Q I h
 rw[eval_ListComp]
 refine wpAny_comprehension_free (use:=none) rfl hs (tX hos cs I) cs.kind cs.locs (xl (hi pins s σ H _ I h) fun xv s1 h1=>xl h1 fun itv s2 h2=>?_)
 obtain⟨it,fp,tn,J,H2,rfl,I2,T,st2,f2,hW⟩:=h2
 refine iY (Qd:=Q) (RR:=fun acc C=>compPost (model X.prog X.w) X.A X.xe none (EP X pins σ Q) acc C) hc hos hN cs he I2 T st2 f2 hW fun D C H5 s6 m I6 hn fC q=>?_
 refine⟨m,hn,fun h' sb=>?_⟩
 obtain⟨g0,g1,g2,g3,g4,g5⟩:=fC
 exact⟨.ref D,H5,I6.turned (t':=s6.toks) (it:=C) (fun b o hb e=>sb.extBut b o hb e) g0 g1 g3 g4 g5,rfl,q⟩
theorem cZ {osc:Scope} {N:List Str} {sc:Scope} {x y:Str} {px py pos spos:Pos} {elt iter:Expr} {names:List Str} {qN:List Nat} {wi:TI} {te:TE} {i:Nat}
  (hc:X.calm=true) (hos:X.env.scope=osc) (hN:X.N=N) (nd:X.N.Nodup) (cs:gO osc N sc x names qN) (hi':X.N[i]?=some y) (hy:X.env.scope.names.lookup y=some .local) (hi:PI X (.Name x px) iter wi)
  (he:∀fp s₀ H₀,PE (ye X sc x names fp s₀ H₀) elt te) (hsw:swapsWith (.ListComp elt [⟨.Name x px,iter,[],0⟩] sc pos) (some (.Name y py)) spos.line X.env=pure true:=by rfl)
  (hs:∀v,foldedSetIterable iter X.env v=pure v:=by intro _;rfl):PS X (.Assign [.Name y py] (.ListComp elt [⟨.Name x px,iter,[],0⟩] sc pos) spos) (YV (We qN wi te) (pS i)):=by
 intro pins s σ H D I h
 rw[exec_Assign_Name_used _ _ _ _ hsw]
 refine wpAny_bind (wpAny_standAt (wpAny_bind ?_))
 show wpAny _ X.A (do let _ ←comprehension (.ListComp elt [⟨.Name x px,iter,[],0⟩] sc pos) sc X.env _ (newList []) false (eval iter X.env) (some (assign (.Name y py) X.env))) _ _ s
 refine wpAny_bind (wpAny_mono (wpAny_comprehension_free (use:=some (assign (.Name y py) X.env)) (Q:=fun _ s'=>SP X pins D .next s') rfl hs (tX hos cs I) cs.kind cs.locs
  (xl (hi pins s σ H _ I h) fun xv s1 h1=>xl h1 fun itv s2 h2=>?_)) (fun _ s' hq=>wpAny_pure (wpAny_pure hq)) fun _ _ e=>e)
 obtain⟨it,fp,tn,J,H2,rfl,I2,T,st2,f2,hW⟩:=h2
 refine iY (Qd:=fun x H1=>pS i x σ H1 D.nx) (RR:=fun acc C=>compPost (model X.prog X.w) X.A X.xe (some (assign (.Name y py) X.env)) (fun _ s'=>SP X pins D .next s') acc C) hc hos hN cs he I2 T st2 f2 hW fun D' C H5 s6 m I6 hn fC q=>?_
 show wpAny _ X.A (assign (.Name y py) X.env (.ref D')) _ _ _
 obtain⟨oC,es,ep,eC,dC,rC⟩:=id hn
 obtain⟨g0,g1,g2,g3,g4,g5⟩:=id fC
 have I6p:Inv X (pins ++ [(C,oC)]) σ H5 s6:=I6.oV fun p hp=>(List.mem_append.mp hp).elim (fun z=>I6.pin p (List.mem_append_right _ z)) fun z=>by
  have e:p=(C,oC):=by simpa using z
  subst e
  exact⟨eC,g0,g1,g2,fun v z=>by rw[dC] at z;cases z⟩
 refine wpAny_assign_Name (sg I6p nd hi' (.inl hy) (v:=.ref D') rfl (fun s7 I7=>?_) (.inr hy))
 have e7:=(I7.pin (C,oC) (List.mem_append_right _ (List.mem_append_right _ (by simp)))).1
 refine⟨m,⟨oC,es,ep,e7,dC,rC⟩,fun h' sb=>?_⟩
 exact⟨_,H5,(I7.gf).turned (t':=s7.toks) (it:=C) (fun b o hb e=>sb.extBut b o hb e) g0 g1 g3 g4 g5,q⟩
end
noncomputable def QX (J:It) (H:Hp) (xs:List V):Prop:=∀(i:Nat) (H':Hp),qk H H'→
 (i < xs.length→J.go i H')∧(∀y H3,J.K1 i H' y H3→H3=H'∧(i < xs.length→xs[i]?=some y))∧(i=xs.length→J.stop i H')
theorem uj {K:PySem.W.Frag} {a:Addr} {xs:List V} {H:Hp} (h:qD K H a xs):QX (K3 K a) H xs:=fun i H' s=>
 ⟨fun hi=>⟨xs,xs[i],s.seq h,by simp [hi]⟩,fun y H3 q=>⟨q.1,fun _=>q.2 xs (s.seq h)⟩,fun e=>⟨xs,s.seq h,Nat.le_of_eq e.symm⟩⟩
theorem dj {lo:Int} {n:Nat} {H:Hp}:QX (V6 lo n) H ((List.range n).map fun (i:Nat)=>V.int (lo + (i:Int))):=fun i H' s=>
 ⟨fun hi=>by show i < n;simpa using hi,fun y H3 q=>⟨q.1,fun hi=>by
  have hi':i < n:=by simpa using hi
  rw[q.2,List.getElem?_map,List.getElem?_range hi'];rfl⟩,fun e=>by
  have:i=n:=by simpa using e
  exact Nat.le_of_eq this.symm⟩
theorem Kw {z:Str} {H:Hp}:QX (Hy z) H (z.cps.toList.map fun c=>V.str ⟨#[c]⟩):=fun i H' s=>
 ⟨fun hi=>by simpa [Hy,Str.length] using hi,fun y H3 q=>⟨q.1,fun hi=>by
  obtain⟨_,c,hc,e⟩:=q
  rw[e,List.getElem?_map]
  have:z.cps.toList[i]?=some c:=by simpa using hc
  rw[this];rfl⟩,fun e=>by
  have:i=z.length:=by simpa [Str.length] using e
  exact this⟩
theorem gA {J:It} {H:Hp} {xs:List V} {qN:List Nat} {te:TE} {σ:St} {Q:VK} (hJ:QX J H xs) (Pr:Nat→V→V→Prop) (hsz:xs.length≤sizeLine)
  (hs:∀(i:Nat) (y:V) (H':Hp) (Q':VK),xs[i]?=some y→qk H H'→(∀v H4,qk H' H4→Pr i y v→Q' v H4)→te (some y :: yi σ qN) H' Q')
  (hd:∀(D:Addr) (H':Hp) (ys:List V),qk H H'→H D=none→H' D=some (.lst ys)→ys.length=xs.length→(∀(i:Nat) (y v:V),xs[i]?=some y→ys[i]?=some v→Pr i y v)→Q (.ref D) H') :
  JB J qN te σ Q H:=by
 intro D hD
 refine⟨fun i m H2=>m=xs.length - i∧i≤xs.length∧qk H H2∧∃ys,H2 D=some (.lst ys)∧ys.length=i∧∀(j:Nat) (y v:V),xs[j]?=some y→ys[j]?=some v→Pr j y v,
  ⟨xs.length,by simp,Nat.zero_le _,fun b o e=>by rw[qB (qv e hD)];exact e,[],qx,rfl,fun j y v _ e=>by simp at e⟩,?_⟩
 rintro i m H2 ⟨rfl,hi,s2,ys,hy,hl,hp⟩
 obtain⟨j1,j2,j3⟩:=hJ i H2 s2
 by_cases hlt:i < xs.length
 ·refine .inr ⟨j1 hlt,fun y H3 q=>?_⟩
  obtain⟨e3,ey⟩:=j2 y H3 q
  subst e3
  refine hs i y _ _ (ey hlt) s2 fun v H4 s4 pr=>⟨ys,s4 D _ hy,by omega,xs.length - (i + 1),by omega,rfl,hlt,fun b o e=>?_,ys ++ [v],qx,by simp [hl],fun j y' v' e1 e2=>?_⟩
  ·rw[qB (qv e hD)]
   exact s4 b o (s2 b o e)
  ·by_cases hj:j < ys.length
   ·rw[List.getElem?_append_left hj] at e2
    exact hp j y' v' e1 e2
   ·have hje:j=i:=by
     have:=(List.getElem?_eq_some_iff.mp e2).1
     simp at this;omega
    subst hje
    rw[List.getElem?_append_right (by omega),hl,Nat.sub_self] at e2
    rw[ey hlt] at e1
    cases e1
    have:v=v':=by simpa using e2
    subst this
    exact pr
 ·have e:i=xs.length:=by omega
  subst e
  exact .inl ⟨j3 rfl,hd D H2 ys s2 hD hy hl hp⟩
end L2
namespace L2
open PySem PySem.Spec PyProof.Rows
theorem qk.new {H H':Hp} {l:Addr} {o:HO} (e:qk H H') (hl:H' l=none):qk H (upd H' l o):=fun b u q=>by
 have q':=e b u q
 rw[qB (qv q' hl)]
 exact q'
theorem qk.put {H H':Hp} {l:Addr} {o:HO} (e:qk H H') (hl:H l=none):qk H (upd H' l o):=fun b u q=>by
 rw[qB (qv q hl)]
 exact e b u q
theorem qk.og {H:Hp} {l:Addr} {o:HO} (hl:H l=none):qk H (upd H l o):=(qk.refl H).new hl
theorem nC:∀(ys:List V),(∀v∈ys,∃b,v=V.bl b)→∃bs:List Bool,ys=bs.map V.bl
 | [],_=>⟨[],rfl⟩
 | v :: r,h=>by
  obtain⟨b,rfl⟩:=h v List.mem_cons_self
  obtain⟨bs,rfl⟩:=nC r fun u hu=>h u (List.mem_cons_of_mem _ hu)
  exact⟨b :: bs,rfl⟩
theorem iR (sep:Str) (l:List Str):(Txt.join sep l).length≤(l.map (·.length)).sum + l.length * sep.length:=by
 have e:Txt.join sep l=Str.join sep l:=beq_iff_eq.mp (join_plain_closes sep l)
 rw[e]
 exact StrLaws.join_length_le sep l
theorem jW (a b:Str):(a ++ b).length=a.length + b.length:=by
 show (a.cps ++ b.cps).size=_
 rw[Array.size_append]
 rfl
noncomputable def WN:List Expr→Bool
 | []=>true
 | .Constant (.str _) _ _ :: r=>WN r
 | _=>false
noncomputable def Wo:List Expr→List V
 | []=>[]
 | .Constant (.str x) _ _ :: r=>V.str x :: Wo r
 | _=>[]
noncomputable def B6 (es:List Expr):TA:=fun _ H Q=>Q (Wo es) H
theorem vQ {es:List Expr} {p:Pos} {t:Option Expr} {l:Nat} {env:Env}:swapsWith (.List es p) t l env=pure false:=rfl
theorem qj {n:Nat} (h:n≤1000):n≤sizeLine:=Nat.le_of_lt (ux h)
end L2
namespace L2
open PySem PySem.Spec PyProof.Rows
section
variable {X:Cx} {CX:sQ} {k:Nat} {f:Addr} {fd:FuncData} {ps:List Str} {sp:Sp} {dvs:List V} {ds:List Value} {E:XK} {m:Str} {pos apos:Pos} {e o:Expr} {es:List Expr} {ta:TE} {t:TA}
theorem PS.join {st:Stmt} {t:TS} (h:PS X st t):PS X st (fun D σ H=>∃M:St→Hp→Prop,t { D with nx:=M } σ H∧∀σ' H',M σ' H'→D.nx σ' H'):=by
 intro pins s σ H D I ⟨M,q,hM⟩
 refine xl (h pins s σ H _ I q) fun fl s' r=>?_
 cases fl with
 | next=>obtain⟨σ',H',I',r⟩:=r;exact⟨σ',H',I',hM _ _ r⟩
 | brk=>exact r
 | cont=>exact r
 | ret u=>exact r
theorem PE.cut {e:Expr} {t:TE} (h:PE X e t):PE X e (fun σ H Q=>∃M:VK,t σ H M∧∀v H',M v H'→Q v H'):=by
 intro pins s σ H Q I ⟨M,q,hM⟩
 exact xl (h pins s σ H _ I q) fun u s' ⟨v,H',I',r,z⟩=>⟨v,H',I',r,hM v H' z⟩
noncomputable def Bi (K:PySem.W.Frag) (f:Addr) (m:Str) (sp:Sp) (dvs:List V) (E:XK) (ta:TE) (t:TA):TE:=fun σ H Q=>ta σ H fun x H1=>∃a C dx fs,x=.ref a∧H1 a=some (.ins C dx fs)∧uV K C∧Meth K C m f∧fs.lookup m=none∧
 t σ H1 fun vs H2=>sp (x :: (vs ++ dvs)) H2 Q E
end
noncomputable def asc (x:Str):Prop:=∀c∈x.cps.toList,c < 128
theorem asc.ok {x:Str} (h:asc x):PyData.strOk x=true:=by
 unfold PyData.strOk
 rw[Array.all_eq_true]
 intro i hi
 have:=h x.cps[i] (by simp)
 exact decide_eq_true (by omega)
theorem cps_append (a b:Str):(a ++ b).cps.toList=a.cps.toList ++ b.cps.toList:=by
 show (a.cps ++ b.cps).toList=_
 simp
theorem join_eq (sep:Str) (l:List Str):Txt.join sep l=Str.join sep l:=beq_iff_eq.mp (join_plain_closes sep l)
theorem uI {x:Str} {xs:List Str}:Vp (.str x) (xs.map V.str)=decide (x∈xs):=by
 induction xs with
 | nil=>rfl
 | cons y r ih=>
  unfold Vp at ih ⊢
  rw[List.map_cons,List.any_cons,ih]
  have:Vk (.str y) (.str x)=decide (x=y):=by
   show (y == x)=_
   by_cases h:x=y
   ·subst h;simp
   ·rw[decide_eq_false h];exact beq_eq_false_iff_ne.mpr fun q=>h q.symm
  rw[this]
  by_cases h:x=y<;>by_cases h':x∈r<;>simp [h,h']
end L2
namespace L2
open PySem PySem.Spec PyProof.Rows
noncomputable def Nw (H:Hp) (o:HO) (Q:VK):Prop:=∀p H',qk H H'→H p=none→H' p=some o→Q (.ref p) H'
theorem Nw.el {H:Hp} {o:HO} {Q:VK} (h:Nw H o Q) (p:Addr) (hp:H p=none):Q (.ref p) (upd H p o):=h p _ (qk.og hp) hp qx
noncomputable def Keeps (l:Addr) (H H':Hp):Prop:=∀b,b≠l→H' b=H b
theorem Keeps.upd {H:Hp} {l:Addr} {o:HO}:Keeps l H (upd H l o):=fun _ h=>qB h
noncomputable def Ch (H:Hp) (l:Addr) (o:HO) (Q:Hp→Prop):Prop:=∀H',Keeps l H H'→H' l=some o→Q H'
theorem Ch.el {H:Hp} {l:Addr} {o:HO} {Q:Hp→Prop} (h:Ch H l o Q):Q (L2.upd H l o):=h _ Keeps.upd qx
theorem Keeps.put {H H1 H2:Hp} {l:Addr} (k:Keeps l H1 H2) (s:qk H H1) (n:H l=none):qk H H2:=fun b o e=>by
 rw[k b (qv e n)]
 exact s b o e
theorem Keeps.look {H1 H2:Hp} {l b:Addr} {o:HO} (k:Keeps l H1 H2) (e:H1 b=some o) (n:b≠l):H2 b=some o:=by rw[k b n];exact e
noncomputable def Fx (H H':Hp):Prop:=(∀b xs,H b=some (.tup xs)→H' b=some (.tup xs))∧∀b C dx fs,H b=some (.ins C dx fs)→H' b=some (.ins C dx fs)
section
variable {X:Cx}
theorem PE.mono {e:Expr} {t t':TE} (h:PE X e t) (m:∀σ H Q,t' σ H Q→t σ H Q):PE X e t':=fun pins s σ H Q I q=>h pins s σ H Q I (m σ H Q q)
theorem vC.mono {f:Value} {r r':List V→Hp→VK→Prop} (h:vC X f r) (m:∀xs H Q,r' xs H Q→r xs H Q):vC X f r':=fun pins s σ H xs us Q I rv q=>h pins s σ H xs us Q I rv (m xs H Q q)
theorem ib.mono {id:String} {r r':V→List V→Hp→VK→Prop} (h:ib X id r) (m:∀x xs H Q,r' x xs H Q→r x xs H Q):ib X id r':=fun pins s σ H x vs v us Q I rx rv q=>h pins s σ H x vs v us Q I rx rv (m x vs H Q q)
theorem pB.mono {f:Value→Value→Sem Value} {r r':R2} (h:pB X f r) (m:∀x y H Q,r' x y H Q→r x y H Q):pB X f r':=fun pins s σ H x y v u Q I rx ry q=>h pins s σ H x y v u Q I rx ry (m x y H Q q)
theorem WK.mono {r r':V→Option Int→Option Int→Hp→VK→Prop} (h:WK X r) (m:∀x l u H Q,r' x l u H Q→r x l u H Q):WK X r':=fun pins s σ H x v vl vu lo hi sl Q I rx hs pl pu q=>h pins s σ H x v vl vu lo hi sl Q I rx hs pl pu (m x lo hi H Q q)
noncomputable def HN (t:TA):TE:=fun σ H Q=>t σ H fun xs H1=>xs.length≤sizeLine∧Nw H1 (.tup xs) Q
noncomputable def HL (t:TA):TE:=fun σ H Q=>t σ H fun xs H1=>xs.length≤sizeLine∧Nw H1 (.lst xs) Q
theorem PA.cut {es:List Expr} {t:TA} (h:PA X es t):PA X es (fun σ H Q=>∃M:List V→Hp→Prop,t σ H M∧∀vs H',M vs H'→Q vs H'):=by
 intro pos pins s σ H Q I ⟨M,q,hM⟩
 exact xl (h pos pins s σ H _ I q) fun u s' ⟨v,H',I',r,z⟩=>⟨v,H',I',r,hM v H' z⟩
theorem xm {es:List Expr} {t:TA} {pos:Pos} {x1} (h:PA X es t):PE X (.Tuple es x1 pos) (HN t):=(Yg h.cut).mono fun _ _ _ q=>⟨_,q,fun _ _ q=>⟨q.1,q.2.el⟩⟩
theorem qF {es:List Expr} {t:TA} {pos:Pos} (h:PA X es t):PE X (.List es pos) (HL t):=(Yy h.cut).mono fun _ _ _ q=>⟨_,q,fun _ _ q=>⟨q.1,q.2.el⟩⟩
theorem aI:vC X (.type "list") (fun xs H Q=>∃p ys,xs=[.ref p]∧(qD X.K H p ys∨yy X.K H p ys)∧Nw H (.lst ys) Q):=
 nL.mono fun _ _ _ ⟨p,ys,a,b,c⟩=>⟨p,ys,a,b,c.el⟩
theorem VX:WK X (fun x lo hi H Q=>∃a xs,x=.ref a∧qD X.K H a xs∧Nw H (.lst (g6 xs lo hi)) Q):=
 VT.mono fun _ _ _ _ _ ⟨a,xs,e,b,c⟩=>⟨a,xs,e,b,c.el⟩
theorem wD:pB X (binaryOp .Add) (fun x y H Q=>∃l b xs zs,x=.ref l∧y=.ref b∧H l=some (.lst xs)∧H b=some (.lst zs)∧xs.length + zs.length≤sizeLine∧Nw H (.lst (xs ++ zs)) Q):=
 Yj.mono fun _ _ _ _ ⟨l,b,xs,zs,a,c,d,e,f,g⟩=>⟨l,b,xs,zs,a,c,d,e,f,g.el⟩
theorem jv:ib X "list.append" (fun x vs H Q=>∃l xs y,x=.ref l∧vs=[y]∧H l=some (.lst xs)∧xs.length < sizeLine∧Ch H l (.lst (xs ++ [y])) (Q .non)):=
 ib.mono cI fun _ _ _ _ ⟨l,xs,y,a,b,c,d,e⟩=>⟨l,xs,y,a,b,c,d,e.el⟩
theorem lX:ib X "list.clear" (fun x vs H Q=>∃l xs,x=.ref l∧vs=[]∧H l=some (.lst xs)∧Ch H l (.lst []) (Q .non)):=
 ib.mono Xa fun _ _ _ _ ⟨l,xs,a,b,c,e⟩=>⟨l,xs,a,b,c,e.el⟩
theorem aE:ib X "list.pop" (fun x vs H Q=>∃l xs y,x=.ref l∧vs=[]∧H l=some (.lst xs)∧xs[xs.length - 1]?=some y∧Ch H l (.lst xs.dropLast) (Q y)):=
 ib.mono W6 fun _ _ _ _ ⟨l,xs,y,a,b,c,d,e⟩=>⟨l,xs,y,a,b,c,d,e.el⟩
theorem tT:ib X "list.extend" (fun x vs H Q=>∃l b xs zs,x=.ref l∧vs=[.ref b]∧H l=some (.lst xs)∧H b=some (.lst zs)∧xs.length + zs.length≤sizeLine∧Ch H l (.lst (xs ++ zs)) (Q .non)):=
 ib.mono Q4 fun _ _ _ _ ⟨l,b,xs,zs,a,a',c,d,e,f⟩=>⟨l,b,xs,zs,a,a',c,d,e,f.el⟩
end
structure xB (P:Program) (w:World) (K:PySem.W.Frag) (mg:Str→Option Value) (base:Heap) (CX:sQ) (k:Nat) (C:Addr) (m:Str) (sp:Sp):Prop where
 ex:∃f fd ps,Meth K C m f∧qi P w K mg base CX k f fd ps sp∧Binds K fd ps []
theorem xB.mk' {P:Program} {w:World} {K:PySem.W.Frag} {mg:Str→Option Value} {base:Heap} {CX:sQ} {j k:Nat} {C f:Addr} {m:Str} {sp:Sp} {fd:FuncData} {ps:List Str} (h1:Meth K C m f) (h2:qi P w K mg base CX j f fd ps sp) (h3:Binds K fd ps []) (h:j≤k) :
  xB P w K mg base CX k C m sp:=⟨f,fd,ps,h1,h2.mono h,h3⟩
noncomputable def Ka (X:Cx) (CX:sQ) (k:Nat) (m:Str) (E:XK) (ta:TE) (t:TA):TE:=fun σ H Q=>ta σ H fun x H1=>∃a C dx fs,x=.ref a∧H1 a=some (.ins C dx fs)∧uV X.K C∧fs.lookup m=none∧
 ∃sp,xB X.prog X.w X.K X.mg X.base CX k C m sp∧t σ H1 fun vs H2=>sp (x :: vs) H2 Q E
section
variable {X:Cx} {k:Nat} {m:Str} {pos apos:Pos} {e o:Expr} {es:List Expr} {ta:TE} {t:TA}
theorem bg {pl:Sem Bool} (hr:vJ k X.A) (he:PE X o ta) (ha:PA X (e :: es) t)
  (hst:starEach (e :: es) X.env=(false,eval e X.env) :: starEach es X.env:=by rfl) (hpl:(backTo pos (starEach es X.env)).any (·.1)=false:=by rfl)
  (ht:eval (.Call (.Attribute o m apos) (e :: es) [] pos) X.env=(do
   let ov ←eval o X.env
   standAt apos.atName
   let (f,first) ←holding [ov] (getMethod ov m pl)
   callWith pos f first (backTo pos (starEach (e :: es) X.env)) (backToKw pos (keywordEach [] X.env))):=by rfl) :
  PE X (.Call (.Attribute o m apos) (e :: es) [] pos) (Ka X jk k m E0 ta t):=by
 intro pins s σ H Q I h
 refine PySem.W.methodCall_KW (pl:=pl) (xl (he pins s σ H _ I h) fun u s1 ⟨x,H1,I1,rx,a,C,dx,fs,ex,ea,c,l,sp,M,q⟩=>?_) ht
 subst ex
 obtain⟨f,fd,ps,hm,F,hb⟩:=M.ex
 obtain rfl:u=Value.ref a:=rx
 refine mI I1 ea c hm l ?_
 refine PySem.W.callWith_K (first:=[.ref a]) (h₀:=X.base) I.ok.mod.Xf hm.kp (xl (ha pos pins s1 σ H1 _ I1 q) fun us s2 ⟨vs,H2,I2,r,q2⟩=>⟨I2.pY,?_⟩) hst hpl
 exact oB (us:=.ref a :: us) (vs:=.ref a :: vs) F hr hb .nil qQ I2 (.cons rfl r) (by rw[List.append_nil];exact q2)
theorem ki {pl:Sem Bool} (hr:vJ k X.A) (he:PE X o ta)
  (ht:eval (.Call (.Attribute o m apos) [] [] pos) X.env=(do
   let ov ←eval o X.env
   standAt apos.atName
   let (f,first) ←holding [ov] (getMethod ov m pl)
   callWith pos f first (backTo pos (starEach [] X.env)) (backToKw pos (keywordEach [] X.env))):=by rfl) :
  PE X (.Call (.Attribute o m apos) [] [] pos) (Ka X jk k m E0 ta YF):=by
 intro pins s σ H Q I h
 refine PySem.W.methodCall_KW (pl:=pl) (xl (he pins s σ H _ I h) fun u s1 ⟨x,H1,I1,rx,a,C,dx,fs,ex,ea,c,l,sp,M,q⟩=>?_) ht
 subst ex
 obtain⟨f,fd,ps,hm,F,hb⟩:=M.ex
 obtain rfl:u=Value.ref a:=rx
 refine mI I1 ea c hm l ?_
 exact PySem.W.callWith_K0 (first:=[.ref a]) I1.pY hm.kp (oB (us:=[.ref a]) (vs:=[.ref a]) F hr hb .nil qQ I1 (.cons rfl .nil) q)
end
theorem WV {α:Type} [Inhabited α] {xs:List α} {i:Int} (h0:0≤i) (h1:i < xs.length):sG xs i=some (xs.getD i.toNat default):=by
 have hj:i.toNat < xs.length:=by omega
 have e:=nM (xs:=xs) (j:=i.toNat) (v:=xs[i.toNat]) (by simp [hj])
 rw[Int.toNat_of_nonneg h0] at e
 rw[e,List.getD_eq_getElem?_getD,List.getElem?_eq_getElem hj]
 rfl
theorem ZW {α:Type} {f:α→V} {xs:List α} {i:Int} (d:α) (h0:0≤i) (h1:i < xs.length):sG (xs.map f) i=some (f (xs.getD i.toNat d)):=by
 have hj:i.toNat < (xs.map f).length:=by rw[List.length_map];omega
 have e:=nM (xs:=xs.map f) (j:=i.toNat) (v:=(xs.map f)[i.toNat]) (List.getElem?_eq_getElem hj)
 rw[Int.toNat_of_nonneg h0] at e
 rw[e,List.getElem_map,List.getD_eq_getElem?_getD,List.getElem?_eq_getElem (by omega)]
 rfl
theorem JC {xs:List Int} {i:Int} (h0:0≤i) (h1:i < xs.length):sG (xs.map V.int) i=some (.int (xs.getD i.toNat 0)):=ZW 0 h0 h1
theorem pP {xs:List Str} {i:Int} (h0:0≤i) (h1:i < xs.length):sG (xs.map V.str) i=some (.str (xs.getD i.toNat "")):=ZW (f:=V.str) ("" : Str) h0 h1
theorem JU {z:Str} {i:Int} (h0:0≤i) (h1:i < z.length):sG z.cps.toList i=some (z.cps.toList.getD i.toNat 0):=WV h0 (by simpa [Str.length] using h1)
theorem kd {a b:Str} (h:a.cps.toList=b.cps.toList):a=b:=by
 cases a;cases b
 simp only at h
 rw[Array.toList_inj.mp h]
theorem wU (a b c:Str):a ++ b ++ c=a ++ (b ++ c):=kd (by simp only[cps_append,List.append_assoc])
theorem pA (s x y:Str) (r:List Str):Str.join s (x :: y :: r)=x ++ s ++ Str.join s (y :: r):=rfl
theorem join_one (s x:Str):Str.join s [x]=x:=rfl
end L2
namespace L2
open PySem PySem.Spec PyProof.Rows
theorem WY {x y:Str} {n m:Nat} (hx:x.length≤n) (hy:y.length≤m) (h:n + m≤1000):x.length + y.length≤sizeLine:=qj (by omega)
theorem K8 {x y:Str} {n m:Nat} (hx:x.length≤n) (hy:y.length≤m):(x ++ y).length≤n + m:=by rw[jW];omega
theorem Xr (x:Str):x.length≤x.length:=Nat.le_refl _
theorem VY {c:Nat}:(⟨#[c]⟩:Str).length≤1:=Nat.le_refl _
end L2
namespace L2
open PySem PySem.Spec PyProof.Rows
noncomputable def tf (K:PySem.W.Frag) (H:Hp) (x:V) (f:Str) (v:V):Prop:=∃a C dx fs,x=.ref a∧H a=some (.ins C dx fs)∧uV K C∧qW K C f∧fs.lookup f=some v
noncomputable def HR (K:PySem.W.Frag) (ta:TE) (f:Str):TE:=fun σ H Q=>ta σ H fun x H1=>∃v,tf K H1 x f v∧Q v H1
theorem qJ {X:Cx} {K:PySem.W.Frag} (hK:X.K=K) {e:Expr} {ta:TE} {f:Str} {pos:Pos} (he:PE X e ta) (hb:attributeBase e f X.env (eval e X.env)=eval e X.env):PE X (.Attribute e f pos) (HR K ta f):=by
 subst hK
 refine(Yw he.cut hb).mono fun σ H Q q=>⟨_,q,fun x H1 z=>?_⟩
 obtain⟨v,⟨a,C,dx,fs,h1,h2,h3,h4,h5⟩,q⟩:=z
 exact⟨a,C,dx,fs,v,h1,h2,h3,h4,h5,q⟩
theorem dU (K:PySem.W.Frag) (t:Value):PySem.W.kitOne K t t=some true:=by
 unfold PySem.W.kitOne
 rw[if_pos (by simp)]
end L2
namespace L2
open PySem PySem.Spec PyProof.Rows
structure P9 (K:PySem.W.Frag) (C:Addr):Prop where
 makes:PySem.W.makesIn K C=true
 init:PySem.W.findIn K (.ref C) "__init__" = some (some (.builtin "object.__init__"))
 kp:PySem.W.keepIn K (.ref C)=true
section
variable {X:Cx} {C:Addr} {x:Str} {p pos:Pos}
end
end L2
namespace L2
open PySem PySem.Spec PyProof.Rows
theorem XW {n:Int} (h0:0≤n) (h1:n≤10 ^ 20):(Str.ofString (toString n)).length≤21∧1≤(Str.ofString (toString n)).length∧asc (Str.ofString (toString n)):=by
 obtain⟨m,rfl⟩:=Int.eq_ofNat_of_zero_le h0
 have e:=PySem.W.KIN.signs_num m
 have hl:(Str.ofString (toString ((m:Nat):Int))).length=(Nat.toDigits 10 m).length:=by
  have:=congrArg List.length e
  rw[List.length_map] at this
  rw[←this]
  simp [Str.length]
 refine⟨?_,?_,fun c hc=>?_⟩
 ·rw[hl]
  refine digits10_le (by decide) ?_
  have:(m:Int) < 10 ^ 21:=by omega
  exact_mod_cast this
 ·rw[hl];exact toDigits_len_ge 10 m
 ·rw[e] at hc
  obtain⟨ch,hch,rfl⟩:=List.mem_map.mp hc
  have r:=PyProof.Rows.digit_range (Nat.isDigit_of_mem_toDigits (by decide) (by decide) hch)
  omega
theorem tU {n:Int} (h0:0≤n) (h1:n≤10 ^ 20):n.natAbs.log2 < 1920:=by
 have:n.natAbs < 2 ^ 67:=by omega
 by_cases h:n.natAbs=0
 ·rw[h];decide
 ·exact Nat.lt_trans ((Nat.log2_lt h).mpr this) (by decide)
theorem di (xs ys:List Str):PyData.eqv (.list (xs.map PyData.str)) (.list (ys.map PyData.str))=decide (xs=ys):=by
 simp only[PyData.eqv,pU]
end L2
namespace L2
open PySem PySem.Spec PyProof.Rows
theorem Gd {H H':Hp} {b:Addr} {o:HO} (e:H b=some o) (s:qk H H'):H' b=some o:=s b o e
theorem Ya {K:PySem.W.Frag} {H H':Hp} {a:Addr} {xs:List V} (h:qD K H a xs) (s:qk H H'):qD K H' a xs:=s.seq h
end L2
namespace L2
open PySem PySem.Spec PyProof.Rows
end L2
namespace L2
open PySem PySem.Spec PyProof.Rows
section
variable {X:Cx} {K:PySem.W.Frag}
theorem cc {es:List Expr} {k:Nat} {t:V7} {n:Nat} {pos:Pos} (hK:X.K=K) (hc:X.calm=true) (h:YO X es t)
  (hn:(assignEach es X.env).length=n:=by rfl) (hst:(assignEach es X.env).findIdx? (·.1)=none:=by rfl):PG X (.Tuple es k pos) (WS K n t):=hK▸Yb hc h hn hst
theorem qf (hK:X.K=K):YN X (Yu K):=hK▸Vd
theorem qu (hK:X.K=K):YN X (Yr K):=hK▸WO
theorem kL (hK:X.K=K):WK X (fun x lo hi H Q=>∃a xs,x=.ref a∧qD K H a xs∧Nw H (.lst (g6 xs lo hi)) Q):=hK▸VX
theorem nz (hK:X.K=K):pB X (compareOp .NotIn) (BU K true):=hK▸oJ
theorem oQ (hK:X.K=K) (hu:X.A.units + 64 < cLine):pB X (compareOp .Eq) (VF K false):=hK▸Yx hu
theorem rj (hK:X.K=K) (hu:X.A.units + 64 < cLine):pB X (compareOp .NotEq) (VF K true):=hK▸Yk hu
theorem jG (hK:X.K=K):vC X (.builtin "len") (fun xs H Q=>∃p ys,xs=[.ref p]∧(qD K H p ys∨yy K H p ys)∧Q (.int ys.length) H):=hK▸nR
theorem wb (hK:X.K=K):vC X (.type "list") (fun xs H Q=>∃p ys,xs=[.ref p]∧(qD K H p ys∨yy K H p ys)∧Nw H (.lst ys) Q):=hK▸aI
theorem jR (hK:X.K=K):vC X (.builtin "isinstance") (fun xs H Q=>∃x c t b,xs=[x,c]∧((∃n,c=.ty n)∨∃a,c=.ref a)∧wY K H x t∧PySem.W.kitOne K t (JE c)=some b∧Q (.bl b) H):=hK▸iZ
theorem kc (hK:X.K=K):ib X "str.join" (rJoin K):=hK▸Vo
theorem vo {tg l:Expr} {tl:TE} (hK:X.K=K) (hl:PE X l tl):PI X tg l (Wb K tl):=hK▸VH hl
end
end L2
namespace L2
open PySem PySem.Spec PyProof.Rows
structure bu (osc:Scope) (N:List Str) (sc:Scope) (xs names:List Str) (qN:List Nat):Prop where
 kind:sc.kind=.function
 lK:∀y∈sc.names,y.2≠.cell
 locs:∀y∈sc.names,y.2=.local→sc.names.lookup y.1=some .local
 frees:∀y∈sc.names,y.2=.free→osc.names.lookup y.1=some .cell
 own:∀x∈xs,sc.names.lookup x=some .local
 qN:names.map some=qN.map fun i=>N[i]?
 aM:∀y∈names,sc.names.lookup y=some .free
 nd:(xs ++ names).Nodup
noncomputable def x8 (X:Cx) (sc:Scope) (xs names:List Str) (fp:List Addr) (s₀:Shared) (H₀:Hp):Cx where
 prog:=X.prog
 w:=X.w
 K:=X.K
 mg:=X.mg
 base:=X.base
 A:=X.A
 N:=xs ++ names
 s₀:=s₀
 H₀:=H₀
 env:=compEnvC sc (jf X.env sc.names []) s₀.heap.objs.size X.env
 outer:=X.stack
 stack:=X.stack
 ex:=fp
 fn:=fun _=>false
 calm:=X.calm
 pn:=[]
 xe:=fun _ _=>False
theorem iI {X:Cx} {sc:Scope} {xs names:List Str} {fp:List Addr} {s₀:Shared} {H₀:Hp} {x:Str} (h:sc.names.lookup x=some .local):(x8 X sc xs names fp s₀ H₀).env.scope.names.lookup x=some .local:=lookup_relabel_local h
noncomputable def HQ (X:Cx) (ifs:List Expr) (t:TT):Prop:=
 ∀(pins:List (Addr × Obj)) (s:Shared) (σ:St) (H:Hp) (Q:Bool→Hp→Prop),Inv X pins σ H s→t σ H Q→
  wpAny (model X.prog X.w) X.A (forIn ifs true fun c r=>if r=true then do let ok ←isTrue c X.env (eval c X.env);pure (ForInStep.yield ok) else pure (ForInStep.yield r)) (TP X pins σ Q) X.xe s
noncomputable def VE:TT:=fun _ H Q=>Q true H
theorem Qy {X:Cx}:HQ X [] VE:=fun _ _ _ H _ I q=>wpAny_tests_nil ⟨H,I,q⟩
noncomputable def ic (J:It) (n:Nat) (qN:List Nat) (g:TG) (tt:TT) (te:TE) (σ:St) (Q:VK) (H1:Hp):Prop:=∀D,H1 D=none→∃W:Nat→Nat→St→Hp→Prop,(∃m,W 0 m (List.replicate n none ++ yi σ qN) (upd H1 D (.lst [])))∧∀i m σ1 H2,W i m σ1 H2→
 (J.stop i H2∧Q (.ref D) H2)∨(J.go i H2∧∀y H3,J.K1 i H2 y H3→g y σ1 H3 fun σ2 H4=>tt σ2 H4 fun b H5=>if b=true then te σ2 H5 fun v H6=>∃ys,H6 D=some (.lst ys)∧ys.length < sizeLine∧∃m',m' < m∧W (i + 1) m' σ2 (upd H6 D (.lst (ys ++ [v])))
  else ∃m',m' < m∧W (i + 1) m' σ2 H5)
noncomputable def YG (n:Nat) (qN:List Nat) (wi:TI) (g:TG) (tt:TT) (te:TE):TE:=fun σ H Q=>wi σ H fun J H1=>ic J n qN g tt te σ Q H1
section
variable {prog:Program} {w:World} {A:Around} {R:Result→Shared→Prop} {s:Shared}
theorem nT {el tg src : Expr} {ifs : List Expr} {scope : Scope} {pos : Pos} {it acc : Value} {env : Env} (I : Nat → Shared → Prop)
    (turn : ∀ n s, I n s → Noted prog w A env R (pyNext it) (fun r s1 => match r with
      | none => R (.ok .next) s1
      | some v => Noted prog w A env R (letOwnedTupleGo tg it v) (fun _ => Noted prog w A env R (assign tg env v) fun _ => Noted prog w A env R (forIn ifs true (testB env)) fun ok s4 =>
        if ok = true then Noted prog w A env R (eval el env) (fun x => Noted prog w A env R (call (.builtin "list.append") [acc, x]) fun _ s6 => ∃ m, m < n ∧ I m s6) s4 else ∃ m, m < n ∧ I m s4) s1) s) (n : Nat) (h : I n s) :
    codeAny (model prog w) A (.compLoop (.ListComp el [⟨tg, src, ifs, 0⟩] scope pos) 0 it acc env) R s := by
  refine codeAny_loop rfl I (fun k s1 hI => (?_ : wpAny _ _ (Sem.onRaise _ _) _ _ _)) n h
  refine wpAny_noted (compTurn_list .. ▸ wpAny_bind (wpAny_standAt (sq2 (turn k s1 hI) fun r s2 hr => ?_)))
  cases r
  · exact wpAny_pure hr
  · exact sq2 hr fun _ _ a => sq2 a fun _ _ b => sq2 b fun ok _ c => by
      cases ok
      · exact wpAny_pure ⟨rfl, c⟩
      · exact sq2 (sq2 c fun _ _ d => sq2 d fun _ _ e => wpAny_pure e) fun _ _ e => wpAny_pure ⟨rfl, e⟩
end
section
variable {X:Cx}
theorem Vq {pins:List (Addr × Obj)} {σ:St} {H:Hp} {s:Shared} {osc:Scope} {N:List Str} {sc:Scope} {xs names:List Str} {qN:List Nat} {fp:List Addr}
  (hos:X.env.scope=osc) (cs:bu osc N sc xs names qN) (I:Inv X pins σ H s) (hf:∀b∈fp,gD X pins H b) (hlt:∀b∈fp,b < s.heap.objs.size):(x8 X sc xs names fp s H).Ok:=by
 subst hos
 have cl:=vG (env:=X.env) sc.names [] (fun z c e=>by simp at e)
 have hcl:∀y c,(jf X.env sc.names []).lookup y=some c→X.env.cells.lookup y=some c:=fun y c e=>by
  have e1:=cl.1 y c e
  have hm:(y,NameKind.free)∈sc.names:=by
   by_cases q:(y,NameKind.free)∈sc.names
   ·exact q
   ·have:=(cl.2 y).mpr ⟨rfl,q⟩
    rw[this] at e;cases e
  obtain⟨c',hc'⟩:=I.ok.has y (.inl (cs.frees _ hm rfl))
  rw[hc'] at e1 ⊢
  rw[e1];rfl
 refine⟨I.ok.mod,?_,I.ok.glob,I.ok.blt,Nat.le_refl _,fun y z c h1 h2=>I.ok.inj y z c (hcl y c h1) (hcl z c h2),fun y hy=>?_,fun y c h=>?_,I.ok.hd,I.ok.frames,.inl rfl,fun b hb=>⟨?_,fun y c h=>?_⟩,
  I.bs,Nat.le_trans I.ok.JV I.sz,fun b o e hb=>?_,fun b hb z=>?_,I.stack,I.cG⟩
 ·exact cs.kind
 ·have hy':(relabel sc X.env).names.lookup y=some .cell∨(relabel sc X.env).names.lookup y=some .free:=hy
  have key:sc.names.lookup y=some .free:=by
   rw[kU] at hy'
   cases q:sc.names.lookup y with
   | none=>rw[q] at hy';simp at hy'
   | some k=>
    rw[q] at hy'
    have hm:=PySem.mem_of_lookup q
    have hnc:=cs.lK _ hm
    by_cases hk:k=.free
    ·rw[hk]
    ·have e:(if (k == NameKind.free && X.env.scope.kind == .function && X.env.kindOf y == some .cell)=true then NameKind.cell else k)=k:=if_neg (by simp [hk])
     rw[Option.map_some,e] at hy'
     rcases hy' with z | z
     ·exact absurd (Option.some.inj z) hnc
     ·exact absurd (Option.some.inj z) hk
  have hm:=PySem.mem_of_lookup key
  cases q:(jf X.env sc.names []).lookup y with
  | some c=>exact⟨c,q⟩
  | none=>exact absurd hm ((cl.2 y).mp q).2
 ·exact absurd (show false=true from h) (by simp)
 ·exact Nat.ne_of_lt (hlt b hb)
 ·exact(hf b hb).2.2.2.2.1 y c (hcl y c h)
 ·rcases(hf b hb).2.2.2.1 with z | z
  ·exact I.ok.Q6 b o e z
  ·exact absurd (Nat.lt_of_lt_of_le (Heap.lt_size e) (Nat.le_trans I.ok.JV z)) (Nat.lt_irrefl _)
 ·rcases List.mem_cons.mp (I.sy b z) with q | q
  ·exact(hf b hb).2.1 q
  ·exact(hf b hb).2.2.1 q
theorem QB {pins:List (Addr × Obj)} {σ:St} {s₂:Shared} {osc:Scope} {N:List Str} {sc:Scope} {pos:Pos} {elt iter tg:Expr} {ifs:List Expr} {xs names:List Str} {qN:List Nat} {g:TG} {tt:TT} {te:TE} {E:Value→Shared→Prop}
  {RR:Value→Addr→Result→Shared→Prop} {H2:Hp} {it:Addr} {fp:List Addr} {tn:Nat→Heap→Prop} {J:It} {Qd:V→Hp→Prop}
  (hc:X.calm=true) (hos:X.env.scope=osc) (hN:X.N=N) (cs:bu osc N sc xs names qN) (hg:∀fp s₀ H₀,PG (x8 X sc xs names fp s₀ H₀) tg g) (ht:∀fp s₀ H₀,HQ (x8 X sc xs names fp s₀ H₀) ifs tt) (he:∀fp s₀ H₀,PE (x8 X sc xs names fp s₀ H₀) elt te)
  (I2:Inv X pins σ H2 s₂) (T:Turn X.prog X.w X.K tg J fp it tn) (st2:tn 0 s₂.heap) (f2:∀b∈fp,gD X pins H2 b)
  (hW:ic J xs.length qN g tt te σ Qd H2)
  (cont:∀D C H5 s6 m,Inv X pins σ H5 s6→s6.heap.Ns C m→gD X pins H5 C→Qd (.ref D) H5→RR (.ref D) C (.ok .next) s6) :
  wpAny (model X.prog X.w) X.A (newList []) (fun acc s₃=>wpAny (model X.prog X.w) X.A (newFunctionEnv sc X.env.globals (jf X.env sc.names []) [] X.env.qual none .none (some X.env)) (fun cenv s₄=>
   codeAny (model X.prog X.w) X.A (.compStart (.ListComp elt [⟨tg,iter,ifs,0⟩] sc pos) 0 (.ref it) acc { cenv with scope:=relabel sc X.env }) (RR acc cenv.locals) s₄) E s₃) E s₂:=by
 subst hN
 refine wpAny_newObj_type (wpAny_newFunctionEnv cs.lK (by intro y hy;simp at hy) (fun h₁ hns₁ hsb₁=>?_) cs.kind)
 dsimp only at hns₁ hsb₁ ⊢
 have fp2:∀b∈fp,b < s₂.heap.objs.size:=fun b hb=>by
  obtain⟨o,e,_⟩:=T.obj _ _ st2 b hb
  exact Heap.lt_size e
 have I3:Inv X pins σ (upd H2 s₂.heap.objs.size (.lst [])) { s₂ with heap:=s₂.heap.push { cls:=.type "list",dict:=none,data:=.seq ([]:List Value).toArray } }:=I2.Xs (t':=s₂.toks) (its:=[]) .nil (Nat.zero_le _)
 obtain⟨W,⟨m0,w0⟩,turn⟩:=hW s₂.heap.objs.size I2.fresh
 have f3:∀b∈fp,gD X pins (upd H2 s₂.heap.objs.size (.lst [])) b:=fun b hb=>⟨by rw[qB (Nat.ne_of_lt (fp2 b hb))];exact(f2 b hb).1,(f2 b hb).2⟩
 have hD:∀b o,s₂.heap.get? b=some o→(s₂.heap.push { cls:=.type "list",dict:=none,data:=.seq ([]:List Value).toArray }).get? b=some o:=fun b o e=>Heap.get?_push_of_some _ e
 generalize hs3:({ s₂ with heap:=s₂.heap.push { cls:=.type "list",dict:=none,data:=.seq ([]:List Value).toArray } }:Shared)=s₃ at *
 have hs3h:s₃.heap=s₂.heap.push { cls:=.type "list",dict:=none,data:=.seq ([]:List Value).toArray }:=by rw[←hs3]
 rw[←hs3h] at hns₁ hsb₁ hD ⊢
 have nA:∀b∈fp,b < s₃.heap.objs.size:=fun b hb=>by
  rw[hs3h,Heap.size_push];exact Nat.lt_succ_of_lt (fp2 b hb)
 have k3:∀b o,s₃.heap.get? b=some o→h₁.get? b=some o:=fun b o e=>hsb₁.extBut b o (Nat.ne_of_lt (Heap.lt_size e)) (Heap.get?_push_of_some _ e)
 have ok:=Vq hos cs I3 f3 nA
 have cl:=vG (env:=X.env) sc.names [] (fun z c e=>by simp at e)
 have hcl:∀y c,(jf X.env sc.names []).lookup y=some c→X.env.cells.lookup y=some c:=fun y c e=>by
  have e1:=cl.1 y c e
  have hm:(y,NameKind.free)∈sc.names:=by
   by_cases q:(y,NameKind.free)∈sc.names
   ·exact q
   ·have:=(cl.2 y).mpr ⟨rfl,q⟩
    rw[this] at e;cases e
  obtain⟨c',hc'⟩:=I3.ok.has y (.inl (by show X.env.scope.names.lookup y=_;rw[hos];exact cs.frees _ hm rfl))
  rw[hc'] at e1 ⊢
  rw[e1];rfl
 have cell4:∀y c,(jf X.env sc.names []).lookup y=some c→∀v,s₃.heap.IsCell c v→h₁.IsCell c v:=fun y c e v ⟨o,ho,hd⟩=>⟨o,k3 _ _ ho,hd⟩
 have lenC:qN.length=names.length:=by have:=congrArg List.length cs.qN;simpa using this.symm
 have I4:∀tk,Inv (x8 X sc xs names fp s₃ (upd H2 s₂.heap.objs.size (.lst []))) [] (List.replicate xs.length none ++ yi σ qN) (upd H2 s₂.heap.objs.size (.lst [])) { s₃ with heap:=h₁,toks:=tk }:=fun tk=>by
  refine⟨ok,rfl,I3.bare,Un.kept k3,⟨_,hns₁,fun i y v e1 e2 e3=>?_⟩,fun y c e=>?_,I3.fresh,fun y c e=>I3.pk y c (hcl y c e),fun p hp=>absurd (show p∈([]:List (Addr × Obj)) from hp) (by simp),I3.jc.kept k3,?_⟩
  ·have hle:xs.length≤i:=by
    by_cases q:i < xs.length
    ·rw[List.getElem?_append_left (by rw[List.length_replicate];exact q),List.getElem?_replicate,if_pos q] at e2
     cases e2
    ·omega
   obtain⟨j,rfl⟩:∃j,i=xs.length + j:=⟨i - xs.length,by omega⟩
   ·have e1':names[j]?=some y:=by
     have e1z:(xs ++ names)[xs.length + j]?=some y:=e1
     rw[List.getElem?_append_right (Nat.le_add_right _ _),Nat.add_sub_cancel_left] at e1z
     exact e1z
    have e2':(yi σ qN)[j]?=some (some v):=by
     rw[List.getElem?_append_right (by rw[List.length_replicate];exact Nat.le_add_right _ _),List.length_replicate,Nat.add_sub_cancel_left] at e2
     exact e2
    unfold yi at e2'
    rw[List.getElem?_map] at e2'
    cases qc:qN[j]? with
    | none=>rw[qc] at e2';cases e2'
    | some i0=>
     rw[qc] at e2'
     have e2'':(σ[i0]?).join=some v:=by simpa using e2'
     have e3':σ[i0]?=some (some v):=by
      cases qs:σ[i0]? with
      | none=>rw[qs] at e2'';cases e2''
      | some o=>rw[qs] at e2'';rw[show o=some v from by simpa using e2'']
     have eN:X.N[i0]?=some y:=by
      have q1:(names.map some)[j]?=(qN.map fun i=>X.N[i]?)[j]?:=by rw[cs.qN]
      rw[List.getElem?_map,List.getElem?_map,e1',qc] at q1
      have q2:some y=X.N[i0]?:=by simpa using q1
      exact q2.symm
     have hfree:=cs.aM y (List.mem_of_getElem? e1')
     have hm:=PySem.mem_of_lookup hfree
     have hcell:X.env.scope.names.lookup y=some .cell:=by rw[hos];exact cs.frees _ hm rfl
     obtain⟨m,hn,hl⟩:=I3.loc
     obtain⟨u,ru,lk⟩:=hl i0 y v eN e3' (.inr (.inl hcell))
     refine⟨u,ru,?_⟩
     rcases lk with ⟨kk,_⟩ | ⟨kk,c,ec,hcl'⟩
     ·have kk':X.env.scope.names.lookup y=some .local:=kk
      rw[hcell] at kk';cases kk'
     ·refine .inr ⟨?_,c,?_,?_⟩
      ·left
       show (relabel sc X.env).names.lookup y=some .cell
       rw[kU,hfree]
       have ef:(X.env.scope.kind == ScopeKind.function)=true:=by rw[I3.ok.kind];rfl
       have ek:(X.env.kindOf y == some NameKind.cell)=true:=by
        show (X.env.scope.names.lookup y == some NameKind.cell)=true
        rw[hcell];rfl
       simp [ef,ek]
      ·show (jf X.env sc.names []).lookup y=some c
       cases q:(jf X.env sc.names []).lookup y with
       | none=>exact absurd hm ((cl.2 y).mp q).2
       | some c'=>
        have:=hcl y c' q
        rw[ec] at this
        exact this.symm
      ·obtain⟨o,ho,hd⟩:=hcl'
       exact⟨o,k3 _ _ ho,hd⟩
  ·obtain⟨v,hv⟩:=I3.cell y c (hcl y c e)
   exact⟨v,cell4 y c e v hv⟩
  ·show (List.replicate xs.length none ++ yi σ qN).length=(xs ++ names).length
   unfold yi
   simp [lenC]
 have st4:tn 0 h₁:=T.keep _ _ _ st2 fun b hb o e=>k3 b o (by rw[hs3h];exact Heap.get?_push_of_some _ e)
 have fpok:∀{H':Hp},(∀b∈fp,H' b=none)→∀b∈fp,gD (x8 X sc xs names fp s₃ (upd H2 s₂.heap.objs.size (.lst []))) [] H' b:=fun hn b hb=>
  ⟨hn b hb,(ok.YI b hb).1,ok.QM b hb,.inl hb,(ok.YI b hb).2,fun p hp=>absurd (show p∈([]:List (Addr × Obj)) from hp) (by simp)⟩
 have loop:∀s₄:Shared,s₄={ s₃ with heap:=h₁,toks:=s₃.toks + ([]:List (Str × Value)).length }→
   codeAny (model X.prog X.w) X.A (.compLoop (.ListComp elt [⟨tg,iter,ifs,0⟩] sc pos) 0 (.ref it) (.ref s₂.heap.objs.size) (compEnvC sc (jf X.env sc.names []) s₃.heap.objs.size X.env))
    (RR (.ref s₂.heap.objs.size) s₃.heap.objs.size) s₄:=by
  rintro s₄ rfl
  refine nT (fun n s'=>∃i σ' H',Inv (x8 X sc xs names fp s₃ (upd H2 s₂.heap.objs.size (.lst []))) [] σ' H' s'∧tn i s'.heap∧(∀b∈fp,H' b=none)∧W i n σ' H') ?_ m0
   ⟨0,_,_,I4 _,st4,fun b hb=>(f3 b hb).1,w0⟩
  rintro n s5 ⟨i,σ5,H5,I5,st5,fr5,w5⟩
  rcases turn i n σ5 H5 w5 with ⟨stop,q⟩ | ⟨go,step⟩
  ·refine xl (T.done (x8 X sc xs names fp s₃ (upd H2 s₂.heap.objs.size (.lst []))) rfl rfl rfl hc i [] s5 _ H5 _ I5 (fpok fr5) st5 stop) fun r s6 ⟨hr,I6⟩=>?_
   subst hr
   obtain⟨m,hn,_⟩:=I6.loc
   have J6:Inv X pins σ H5 s6:=I3.JO (ch:=fp) I6.os I6.base I6.jc I6.bare fun b hb=>⟨(f3 b hb).2.2.2.1,(f3 b hb).2.1,(f3 b hb).2.2.2.2.1,(f3 b hb).2.2.2.2.2⟩
   exact cont _ _ H5 s6 m J6 hn (I3.QR (H':=H5) (Nat.le_refl _) I6.free) q
  ·refine xl (T.item (x8 X sc xs names fp s₃ (upd H2 s₂.heap.objs.size (.lst []))) rfl rfl rfl hc i [] s5 _ H5 _ I5 (fpok fr5) st5 go) fun r s6 ⟨u,hr,h6⟩=>?_
   subst hr
   refine xl h6 fun _ s6' ⟨y,H6,I6,r6,y6,st6,fr6⟩=>?_
   have I6':=I6.pinned (fpok fr6) (T.obj _ _ st6)
   have back:∀{σ':St} {H':Hp} {s':Shared},Inv (x8 X sc xs names fp s₃ (upd H2 s₂.heap.objs.size (.lst []))) ([] ++ lM fp s6'.heap) σ' H' s'→tn (i + 1) s'.heap∧∀b∈fp,H' b=none:=fun I9=>
    ⟨T.keep _ _ _ st6 fun b hb o e=>(I9.pin (b,o) (List.mem_append_right _ (List.mem_append_right _ (wF hb e)))).1,fun b hb=>by
     obtain⟨o,e,d⟩:=T.obj _ _ st6 b hb
     exact(I9.pin (b,o) (List.mem_append_right _ (List.mem_append_right _ (wF hb e)))).2.1⟩
   refine wpAny_mono (hg fp s₃ _ _ s6' _ H6 y u _ I6' r6 (step y H6 y6)) (fun _ s7 ⟨σ7,H7,I7,q7⟩=>?_) fun _ _ z=>False.elim z
   refine wpAny_mono (ht fp s₃ _ _ s7 _ H7 _ I7 q7) (fun b s8 ⟨H8,I8,q8⟩=>?_) fun _ _ z=>False.elim z
   cases b with
   | false=>
    rw[if_neg Bool.false_ne_true] at q8 ⊢
    obtain⟨m',hm',w8⟩:=q8
    exact⟨m',hm',i + 1,σ7,H8,I8.gf,(back I8).1,(back I8).2,w8⟩
   | true=>
    rw[if_pos rfl] at q8 ⊢
    refine wpAny_mono (he fp s₃ _ _ s8 _ H8 _ I8 q8) (fun v s9 ⟨vv,H9,I9,r9,ys,hD9,hz9,m',hm',w9⟩=>?_) fun _ _ z=>False.elim z
    refine wpAny_mono (cI (X:=x8 X sc xs names fp s₃ (upd H2 s₂.heap.objs.size (.lst []))) _ s9 _ H9 (.ref s₂.heap.objs.size) [vv] (.ref s₂.heap.objs.size) [v] (fun _ H'=>H'=upd H9 s₂.heap.objs.size (.lst (ys ++ [vv]))) I9 rfl (.cons r9 .nil)
     ⟨_,ys,vv,rfl,rfl,hD9,hz9,rfl⟩) (fun _ s10 ⟨_,H10,I10,_,e10⟩=>?_) fun _ _ z=>False.elim z
    subst e10
    exact⟨m',hm',i + 1,σ7,_,I10.gf,(back I10).1,(back I10).2,w9⟩
 exact codeAny_compStart_list (loop _ (by rw[←hs3])) (T.self _ 0 _ _ _ st4 (loop _ (by rw[←hs3])))
theorem aJ {pins:List (Addr × Obj)} {σ:St} {H:Hp} {s:Shared} {osc:Scope} {N:List Str} {sc:Scope} {xs names:List Str} {qN:List Nat} (hos:X.env.scope=osc) (cs:bu osc N sc xs names qN) (I:Inv X pins σ H s) :
  closureFor sc X.env=pure (jf X.env sc.names []):=
 mf fun y hy hk=>I.ok.has y.1 (.inl (by show X.env.scope.names.lookup y.1=_;rw[hos];exact cs.frees y hy hk))
theorem ng {osc:Scope} {N:List Str} {sc:Scope} {pos:Pos} {elt iter tg:Expr} {ifs:List Expr} {g:TG} {tt:TT} {xs names:List Str} {qN:List Nat} {wi:TI} {te:TE}
  (hc:X.calm=true) (hos:X.env.scope=osc) (hN:X.N=N) (cs:bu osc N sc xs names qN) (hi:PI X tg iter wi) (hg:∀fp s₀ H₀,PG (x8 X sc xs names fp s₀ H₀) tg g) (ht:∀fp s₀ H₀,HQ (x8 X sc xs names fp s₀ H₀) ifs tt) (he:∀fp s₀ H₀,PE (x8 X sc xs names fp s₀ H₀) elt te)
  (hs:∀v,foldedSetIterable iter X.env v=pure v:=by intro _;rfl):PE X (.ListComp elt [⟨tg,iter,ifs,0⟩] sc pos) (YG xs.length qN wi g tt te):=by
 intro pins s σ H Q I h
 rw[eval_ListComp]
 refine wpAny_comprehension_free (use:=none) rfl hs (aJ hos cs I) cs.kind cs.locs (xl (hi pins s σ H _ I h) fun xv s1 h1=>xl h1 fun itv s2 h2=>?_)
 obtain⟨it,fp,tn,J,H2,rfl,I2,T,st2,f2,hW⟩:=h2
 refine QB (Qd:=Q) (RR:=fun acc C=>compPost (model X.prog X.w) X.A X.xe none (EP X pins σ Q) acc C) hc hos hN cs hg ht he I2 T st2 f2 hW fun D C H5 s6 m I6 hn fC q=>?_
 refine⟨m,hn,fun h' sb=>?_⟩
 obtain⟨g0,g1,g2,g3,g4,g5⟩:=fC
 exact⟨.ref D,H5,I6.turned (t':=s6.toks) (it:=C) (fun b o hb e=>sb.extBut b o hb e) g0 g1 g3 g4 g5,rfl,q⟩
end
theorem JA {J:It} {H:Hp} {xs:List V} {n:Nat} {qN:List Nat} {g:TG} {tt:TT} {te:TE} {σ:St} {Q:VK} (hJ:QX J H xs) (tv:V→List (Option V)) (hn:∀y,(tv y).length=n) (p:V→Bool) (Pr:V→V→Prop) (hsz:xs.length≤sizeLine)
  (hg:∀(i:Nat) (y:V) (ts:List (Option V)) (H':Hp) (K':St→Hp→Prop),xs[i]?=some y→ts.length=n→qk H H'→K' (tv y ++ yi σ qN) H'→g y (ts ++ yi σ qN) H' K')
  (ht:∀(i:Nat) (y:V) (H':Hp) (Q':Bool→Hp→Prop),xs[i]?=some y→qk H H'→(∀H4,qk H' H4→Q' (p y) H4)→tt (tv y ++ yi σ qN) H' Q')
  (he:∀(i:Nat) (y:V) (H':Hp) (Q':VK),xs[i]?=some y→p y=true→qk H H'→(∀v H4,qk H' H4→Pr y v→Q' v H4)→te (tv y ++ yi σ qN) H' Q')
  (hd:∀(D:Addr) (H':Hp) (ys:List V),qk H H'→H D=none→H' D=some (.lst ys)→Paired Pr (xs.filter p) ys→Q (.ref D) H') :
  ic J n qN g tt te σ Q H:=by
 intro D hD
 refine⟨fun i m σ1 H2=>m=xs.length - i∧i≤xs.length∧(∃ts:List (Option V),ts.length=n∧σ1=ts ++ yi σ qN)∧qk H H2∧∃ys,H2 D=some (.lst ys)∧Paired Pr ((xs.take i).filter p) ys,
  ⟨xs.length,by simp,Nat.zero_le _,⟨_,List.length_replicate,rfl⟩,qk.og hD,[],qx,by simpa using Paired.nil⟩,?_⟩
 rintro i m σ1 H2 ⟨rfl,hi,⟨ts,htl,rfl⟩,s2,ys,hy,hp⟩
 obtain⟨j1,j2,j3⟩:=hJ i H2 s2
 by_cases hlt:i < xs.length
 ·refine .inr ⟨j1 hlt,fun y H3 q=>?_⟩
  obtain⟨e3,ey⟩:=j2 y H3 q
  subst e3
  have hyi:=ey hlt
  have htake:xs.take (i + 1)=xs.take i ++ [y]:=by
   rw[List.take_add_one,hyi];rfl
  have hlen:ys.length≤i:=by
   rw[←hp.length]
   exact Nat.le_trans (List.length_filter_le _ _) (by rw[List.length_take];omega)
  refine hg i y ts _ _ hyi htl s2 ?_
  refine ht i y _ _ hyi s2 fun H5 s5=>?_
  cases hpy:p y with
  | false=>
   rw[if_neg Bool.false_ne_true]
   refine⟨xs.length - (i + 1),by omega,rfl,hlt,⟨tv y,hn y,rfl⟩,s2.trans s5,ys,s5 _ _ hy,?_⟩
   rw[htake,List.filter_append,show [y].filter p=[] by simp [hpy],List.append_nil]
   exact hp
  | true=>
   rw[if_pos rfl]
   refine he i y _ _ hyi hpy (s2.trans s5) fun v H6 s6 pr=>⟨ys,s6 _ _ (s5 _ _ hy),by omega,xs.length - (i + 1),by omega,rfl,hlt,⟨tv y,hn y,rfl⟩,((s2.trans s5).trans s6).put hD,ys ++ [v],qx,?_⟩
   rw[htake,List.filter_append,show [y].filter p=[y] by simp [hpy]]
   exact hp.snoc pr
 ·have e:i=xs.length:=by omega
  subst e
  refine .inl ⟨j3 rfl,hd D H2 ys s2 hD hy ?_⟩
  rw[List.take_length] at hp
  exact hp
theorem QH {J:It} {H:Hp} {xs:List V} {n:Nat} {qN:List Nat} {g:TG} {te:TE} {σ:St} {Q:VK} (hJ:QX J H xs) (tv:V→List (Option V)) (hn:∀y,(tv y).length=n) (Pr:V→V→Prop) (hsz:xs.length≤sizeLine)
  (hg:∀(i:Nat) (y:V) (ts:List (Option V)) (H':Hp) (K':St→Hp→Prop),xs[i]?=some y→ts.length=n→qk H H'→K' (tv y ++ yi σ qN) H'→g y (ts ++ yi σ qN) H' K')
  (he:∀(i:Nat) (y:V) (H':Hp) (Q':VK),xs[i]?=some y→qk H H'→(∀v H4,qk H' H4→Pr y v→Q' v H4)→te (tv y ++ yi σ qN) H' Q')
  (hd:∀(D:Addr) (H':Hp) (ys:List V),qk H H'→H D=none→H' D=some (.lst ys)→Paired Pr xs ys→Q (.ref D) H') :
  ic J n qN g VE te σ Q H:=
 JA hJ tv hn (fun _=>true) Pr hsz hg (fun i y H' Q' _ s' k=>k H' (qk.refl _)) (fun i y H' Q' hy _ s' k=>he i y H' Q' hy s' k) (fun D H' ys s' hD e q=>hd D H' ys s' hD e (by rw[List.filter_eq_self.mpr (fun _ _=>rfl)] at q;exact q))
end L2
namespace L2
open PySem PySem.Spec PyProof.Rows
section
variable {X:Cx} {pins:List (Addr × Obj)} {σ:St} {H:Hp} {s:Shared} {h':Heap}
theorem Inv.Pl {ch:List Addr} {a:Addr} {o:HO} {t':Nat} (I:Inv X pins σ H s) (hf:∀b∈ch,gD X pins H b) (k:∀b u,b∉ch→s.heap.get? b=some u→h'.get? b=some u)
  (hp:s.heap.objs.size≤a) (new:xb X.prog X.w (upd H a o) h' a o):Inv X pins σ (upd H a o) { s with heap:=h',toks:=t' }:=by
 have hn:=I.jc.fresh hp
 have nit:∀b u,H b=some u→b∉ch:=fun b u e z=>by rw[(hf b z).1] at e;cases e
 have ne:∀b u,s.heap.get? b=some u→b≠a:=fun b u e z=>absurd (Nat.lt_of_lt_of_le (Heap.lt_size (z▸e)) hp) (Nat.lt_irrefl _)
 refine I.step (g':=s.gens) (d':=s.drawn) (ch:=ch) (fun b hb=>?_) (fun b o _ _ hc e _=>k b o hc e) (fun b o _ _ hc e _=>⟨o.slots,k b o hc e⟩) (fun b o hc e n=>?_) (fun b o hc e=>⟨o,k b o hc e⟩) (fun b xs e=>?_) (fun b o u e=>?_) (fun b ps e=>⟨#[],?_⟩) (fun m hm=>?_) (fun b u e=>?_) I.bare
 ·obtain⟨_,f1,_,f3,f4,f5⟩:=hf b hb
  exact⟨f3,f1,f4,f5⟩
 ·rw[qB (ne b o e)];exact n
 ·rw[qB (qv e hn)];exact e
 ·rw[qB (qv e hn)];exact e
 ·rw[qB (qv e hn),e];simp
 ·obtain⟨o,es,ep,ho,r⟩:=hm
  exact⟨o,es,ep,k _ o (fun z=>(hf _ z).2.1 rfl) ho,r⟩
 ·by_cases hb:b=a
  ·subst hb;rw[qx] at e;cases e;exact new
  ·rw[qB hb] at e
   refine(I.jc b u e).ax (fun c v hc q=>k c v ?_ q) (fun c q=>by rw[qB (qv q hn)];exact q) fun c xs q=>by rw[qB (qv q hn)];exact q
   rcases hc with z | z
   ·rw[z];exact nit b u e
   ·exact nit c _ z
theorem Inv.HH {ch:List Addr} {t':Nat} (I:Inv X pins σ H s) (hf:∀b∈ch,gD X pins H b) (k:∀b u,b∉ch→s.heap.get? b=some u→h'.get? b=some u):Inv X pins σ H { s with heap:=h',toks:=t' }:=by
 have nit:∀b u,H b=some u→b∉ch:=fun b u e z=>by rw[(hf b z).1] at e;cases e
 refine I.step (g':=s.gens) (d':=s.drawn) (ch:=ch) (fun b hb=>?_) (fun b o _ _ hc e _=>k b o hc e) (fun b o _ _ hc e _=>⟨o.slots,k b o hc e⟩) (fun b o hc e n=>n) (fun b o hc e=>⟨o,k b o hc e⟩) (fun b xs e=>e) (fun b o u e=>e) (fun b ps e=>⟨#[],by rw[e];simp⟩) (fun m hm=>?_) (fun b u e=>?_) I.bare
 ·obtain⟨_,f1,_,f3,f4,f5⟩:=hf b hb
  exact⟨f3,f1,f4,f5⟩
 ·obtain⟨o,es,ep,ho,r⟩:=hm
  exact⟨o,es,ep,k _ o (fun z=>(hf _ z).2.1 rfl) ho,r⟩
 ·refine(I.jc b u e).ax (fun c v hc q=>k c v ?_ q) (fun c q=>q) fun c xs q=>q
  rcases hc with z | z
  ·rw[z];exact nit b u e
  ·exact nit c _ z
end
noncomputable def YT (K:PySem.W.Frag) (a b:Addr):It:=
 ⟨fun i H=>∃xs ys x y,qD K H a xs∧qD K H b ys∧xs[i]?=some x∧ys[i]?=some y,
  fun i H v H'=>∃t x y,H t=none∧v=.ref t∧H'=upd H t (.tup [x,y])∧(∀xs,qD K H a xs→xs[i]?=some x)∧∀ys,qD K H b ys→ys[i]?=some y,
  fun i H=>∃xs ys,qD K H a xs∧qD K H b ys∧(xs.length≤i∨ys.length≤i)⟩
noncomputable def Gz (z TI TO i1 i2 l1 l2:Addr) (i:Nat) (h:Heap):Prop:=
 IsZip h z TI TO .none∧IsPair h TI (.ref i1) (.ref i2)∧(∃a b,IsPair h TO a b)∧h.IsListIter i1 l1 i∧h.IsListIter i2 l2 i
theorem KJ {P:Program} {w:World} {K:PySem.W.Frag} {es:List Expr} {k1:Nat} {pos:Pos} {z TI TO i1 i2 l1 l2:Addr} (D:ZipApart z TI TO i1 i2 l1 l2) :
  Turn P w K (.Tuple es k1 pos) (YT K l1 l2) [z,TI,TO,i1,i2] z (Gz z TI TO i1 i2 l1 l2) where
 mem:=by simp
 obj:=fun i h st b hb=>by
  obtain⟨a1,a2,⟨x,y,a3⟩,⟨o4,e4,_,d4⟩,o5,e5,_,d5⟩:=st
  simp only[List.mem_cons,List.not_mem_nil,or_false] at hb
  rcases hb with rfl | rfl | rfl | rfl | rfl
  ·exact⟨_,a1,fun v q=>by cases q⟩
  ·exact⟨_,a2,fun v q=>by cases q⟩
  ·exact⟨_,a3,fun v q=>by cases q⟩
  ·exact⟨_,e4,fun v q=>by rw[d4] at q;cases q⟩
  ·exact⟨_,e5,fun v q=>by rw[d5] at q;cases q⟩
 keep:=fun i h h' st k=>by
  obtain⟨a1,a2,⟨x,y,a3⟩,a4,a5⟩:=st
  exact⟨k z (by simp) _ a1,k TI (by simp) _ a2,⟨x,y,k TO (by simp) _ a3⟩,a4.at fun o e=>k i1 (by simp) o e,a5.at fun o e=>k i2 (by simp) o e⟩
 item:=by
  intro X hP hw hK hc i pins s σ H E I hf st hg
  subst hP hw hK
  obtain⟨xs,ys,x,y,hq1,hq2,hx,hy⟩:=hg
  obtain⟨its1,rv1,p1,_⟩:=I.list hq1
  obtain⟨its2,rv2,p2,_⟩:=I.list hq2
  obtain⟨u1,hu1,ru1⟩:=rv1.get hx
  obtain⟨u2,hu2,ru2⟩:=rv2.get hy
  obtain⟨a1,a2,⟨a,b,a3⟩,a4,a5⟩:=st
  refine wpAny_pyNext_zip_item D a1 a2 a3 a4 a5 p1.isList p2.isList (x:=u1) (y:=u2) (by simpa using hu1) (by simpa using hu2) fun h' b1 b2 b3 b4 b5 b6 bk=>?_
  refine⟨_,rfl,wpAny_letOwnedTupleGo_zip b1 fun h2 c1 c2=>?_⟩
  have lt:∀{c o},s.heap.get? c=some o→s.heap.objs.size≠c:=fun e=>Nat.ne_of_gt (Heap.lt_size e)
  have keepA:∀c o,c∉[z,TI,TO,i1,i2]→s.heap.get? c=some o→h2.get? c=some o:=fun c o hc e=>by
   simp only[List.mem_cons,List.not_mem_nil,or_false,not_or] at hc
   exact c2.extBut _ _ hc.1 (bk c o hc.1 hc.2.2.1 hc.2.2.2.1 hc.2.2.2.2 e)
  have T2:IsPair h2 s.heap.objs.size u1 u2:=c2.extBut _ _ (lt a1) b5
  refine⟨.ref s.heap.objs.size,upd H s.heap.objs.size (.tup [x,y]),I.Pl (t':=s.toks) hf keepA (Nat.le_refl _) ?_,rfl,⟨_,x,y,I.fresh,rfl,rfl,fun zs hz=>by rw[I.lz hz hq1];exact hx,fun zs hz=>by rw[I.lz hz hq2];exact hy⟩,?_,fun b hb=>?_⟩
  ·exact⟨by show 2≤sizeLine;decide,[u1,u2],.cons ru1 (.cons ru2 .nil),_,T2,rfl,0,rfl⟩
  ·exact⟨c1,c2.extBut _ _ D.TIz (bk TI _ D.TIz D.TITO D.TIi1 D.TIi2 a2),⟨_,_,c2.extBut _ _ D.TOz b2⟩,b3.extBut c2.extBut D.i1z,b4.extBut c2.extBut D.i2z⟩
  ·have hb':∃o,s.heap.get? b=some o:=by
    obtain⟨o4,e4,_⟩:=a4
    obtain⟨o5,e5,_⟩:=a5
    simp only[List.mem_cons,List.not_mem_nil,or_false] at hb
    rcases hb with rfl | rfl | rfl | rfl | rfl
    ·exact⟨_,a1⟩
    ·exact⟨_,a2⟩
    ·exact⟨_,a3⟩
    ·exact⟨_,e4⟩
    ·exact⟨_,e5⟩
   obtain⟨o,e⟩:=hb'
   rw[qB (Ne.symm (lt e))]
   exact(hf b hb).1
 done:=by
  intro X hP hw hK hc i pins s σ H E I hf st hg
  subst hP hw hK
  obtain⟨xs,ys,hq1,hq2,he⟩:=hg
  obtain⟨its1,rv1,p1,_⟩:=I.list hq1
  obtain⟨its2,rv2,p2,_⟩:=I.list hq2
  have l1':=rv1.length
  have l2':=rv2.length
  obtain⟨a1,a2,⟨a,b,a3⟩,a4,a5⟩:=st
  refine wpAny_pyNext_zip_end (I.ok.hd hc) D a1 a2 a3 a4 a5 p1.isList p2.isList ?_ fun h' bk=>⟨rfl,I.HH (t':=s.toks) hf fun c o hc e=>?_⟩
  ·rcases he with he | he
   ·exact .inl (by simp;omega)
   ·exact .inr (by simp;omega)
  ·simp only[List.mem_cons,List.not_mem_nil,or_false,not_or] at hc
   exact bk c o hc.1 hc.2.2.1 hc.2.2.2.1 hc.2.2.2.2 e
 self:=fun _ _ _ _ _ st h=>wpAny_pyIter_zip st.1 h
noncomputable def Gp (K:PySem.W.Frag) (ta:TA):TI:=fun σ H R=>ta σ H fun vs H1=>∃a b xs ys,vs=[.ref a,.ref b]∧qD K H1 a xs∧qD K H1 b ys∧R (YT K a b) H1
section
variable {X:Cx}
theorem Yf {es:List Expr} {k1:Nat} {tpos:Pos} {a b:Expr} {ta:TA} {p pos:Pos} (hg:Gl X "zip") (hm:X.mg "zip" = none) (ha:PA X [a,b] ta) (hv:bootBuiltins "zip" = some (.type "zip"))
  (he:starEach [a,b] X.env=(false,eval a X.env) :: starEach [b] X.env:=by rfl) (hpl:(backTo pos (starEach [b] X.env)).any (·.1)=false:=by rfl) :
  PI X (.Tuple es k1 tpos) (.Call (.Name "zip" p) [a,b] [] pos) (Gp X.K ta):=by
 intro pins s σ H R I h
 refine wpAny_Call_Name_kw (cO I hg hm hv ?_)
 refine PyProof.Rows.callWith_type1 (xl (ha pos pins s σ H _ I h) fun us s1 ⟨vs,H1,I1,r1,q1⟩=>?_) he hpl
 obtain⟨l1,l2,xs,ys,rfl,hq1,hq2,q⟩:=q1
 obtain⟨its1,rv1,p1,_⟩:=I1.list hq1
 obtain⟨its2,rv2,p2,_⟩:=I1.list hq2
 cases r1 with
 | cons r rr=>
  cases rr with
  | cons r' rr=>
   cases rr
   cases r
   cases r'
   have b1:l1 < s1.heap.objs.size:=by obtain⟨_,_,e,_⟩:=p1;exact Heap.lt_size e
   have b2:l2 < s1.heap.objs.size:=by obtain⟨_,_,e,_⟩:=p2;exact Heap.lt_size e
   refine call_zip_2 p1.isList p2.isList fun h' c1 c2 c3 c4 c5 c6 ck=>?_
   refine wpAny_pyIter_zip (s:={ s1 with heap:=h' }) c1 ?_
   refine⟨_,_,_,_,H1,rfl,I1.kept (t':=s1.toks) ck,KJ (zipApart_new b1 b2),⟨c1,c2,⟨_,_,c3⟩,c4,c5⟩,fun c hc=>?_,q⟩
   have:s1.heap.objs.size≤c:=by
    simp only[List.mem_cons,List.not_mem_nil,or_false] at hc
    rcases hc with rfl | rfl | rfl | rfl | rfl<;>omega
   exact I1.QR this (I1.jc.fresh this)
theorem nV:∀(tk:Nat) (xs:List Str),Vals (xs.map V.str) (strsFrom tk xs)
 | _,[]=>.nil
 | tk,x :: r=>.cons ⟨tk,rfl⟩ (nV (tk + 1) r)
noncomputable def Yl:V→List V→Hp→VK→Prop:=fun x vs H Q=>∃z y,x=.str z∧vs=[.str y]∧(y.length == 0)=false∧z.length + 2≤sizeLine∧Nw H (.lst ((Txt.split z y).map V.str)) Q
theorem bq:ib X "str.split" Yl:=by
 intro pins s σ H x vs v us Q I rx rv h
 obtain⟨z,y,rfl,rfl,hy,hz,q⟩:=h
 obtain⟨t,rfl⟩:=rx
 obtain⟨u,rfl,ru⟩:=rv.one
 obtain⟨t',rfl⟩:=ru
 have hsz:z.length≤sizeLine:=by omega
 have hle:=PyProof.Rows.split_le z y
 have fin:∀(l:List Value) (tk:Nat),Vals ((Txt.split z y).map V.str) l→EP X pins σ Q (.ref s.heap.objs.size) { s with heap:=s.heap.push { cls:=.type "list",data:=.seq l.toArray },toks:=tk }:=fun l tk r=>
  ⟨.ref s.heap.objs.size,_,I.Xs (t':=tk) r (by rw[List.length_map];omega),rfl,q.el _ I.fresh⟩
 cases h1:(decide (z.length < y.length) || decide (Builtin.Str.strKind z < Builtin.Str.strKind y)) with
 | true=>
  refine call_meets F.slot_str_split (typeIs_str _ _ _) F.entry_str_split (F.args_str_split_2 _ _) (meets_str_split_cannot_occur z y t t' h1) ?_
  refine fin [.str z t] s.toks ?_
  have e:Txt.split z y=[z]:=if_pos h1
  rw[e];exact .cons ⟨t,rfl⟩ .nil
 | false=>
  cases hf:(Builtin.Str.occurrences z y 0 z.length (z.length + 1)).isEmpty with
  | true=>
   refine call_meets F.slot_str_split (typeIs_str _ _ _) F.entry_str_split (F.args_str_split_2 _ _) (meets_str_split_not_found z y t t' h1 hy hf) ?_
   refine fin [.str z t] s.toks ?_
   have e:Txt.split z y=[z]:=(if_neg (ne_true_of_eq_false h1)).trans (if_pos hf)
   rw[e];exact .cons ⟨t,rfl⟩ .nil
  | false=>
   have e:Txt.split z y=Builtin.Str.partsBetween z (Builtin.Str.occurrences z y 0 z.length (z.length + 1)) y.length:=(if_neg (ne_true_of_eq_false h1)).trans (if_neg (ne_true_of_eq_false hf))
   rw[e] at hle
   refine call_meets F.slot_str_split (typeIs_str _ _ _) F.entry_str_split (F.args_str_split_2 _ _) (meets_str_split_sep z y t t' h1 hy hf hsz (by omega)) ?_
   refine fin _ _ ?_
   rw[e];exact nV _ _
theorem Qw {K:PySem.W.Frag} {es:List Expr} {k1:Nat} {tpos:Pos} {a b:Expr} {ta:TA} {p pos:Pos} (hK:X.K=K) (hg:Gl X "zip") (hm:X.mg "zip" = none) (ha:PA X [a,b] ta) (hv:bootBuiltins "zip" = some (.type "zip"))
  (he:starEach [a,b] X.env=(false,eval a X.env) :: starEach [b] X.env:=by rfl) (hpl:(backTo pos (starEach [b] X.env)).any (·.1)=false:=by rfl) :
  PI X (.Tuple es k1 tpos) (.Call (.Name "zip" p) [a,b] [] pos) (Gp K ta):=hK▸Yf hg hm ha hv he hpl
end
theorem J0 {K:PySem.W.Frag} {a b:Addr} {H:Hp} {xs ys:List V} {qN:List Nat} {te:TE} {σ:St} {Q:VK} (hx:qD K H a xs) (hy:qD K H b ys) (Pr:V→V→V→Prop) (hsz:xs.length≤sizeLine)
  (he:∀(i:Nat) (x y:V) (H':Hp) (Q':VK),xs[i]?=some x→ys[i]?=some y→qk H H'→(∀v H4,qk H' H4→Pr x y v→Q' v H4)→te ([some x,some y] ++ yi σ qN) H' Q')
  (hd:∀(D:Addr) (H':Hp) (vs:List V),qk H H'→H D=none→H' D=some (.lst vs)→vs.length=min xs.length ys.length→(∀(i:Nat) x y v,xs[i]?=some x→ys[i]?=some y→vs[i]?=some v→Pr x y v)→Q (.ref D) H') :
  ic (YT K a b) 2 qN (WS K 2 (Xv (pS 0) (Xv (pS 1) Gg))) VE te σ Q H:=by
 intro D hD
 refine⟨fun i m σ1 H2=>m=min xs.length ys.length - i∧i≤min xs.length ys.length∧(∃ts:List (Option V),ts.length=2∧σ1=ts ++ yi σ qN)∧qk H H2∧∃vs,H2 D=some (.lst vs)∧vs.length=i∧∀(j:Nat) x y v,xs[j]?=some x→ys[j]?=some y→vs[j]?=some v→Pr x y v,
  ⟨min xs.length ys.length,by omega,Nat.zero_le _,⟨_,List.length_replicate,rfl⟩,qk.og hD,[],qx,rfl,fun j x y v _ _ e=>by simp at e⟩,?_⟩
 rintro i m σ1 H2 ⟨rfl,hi,⟨ts,htl,rfl⟩,s2,vs,hv,hvl,hp⟩
 have hx2:qD K H2 a xs:=Ya hx s2
 have hy2:qD K H2 b ys:=Ya hy s2
 by_cases hlt:i < min xs.length ys.length
 ·have h1:i < xs.length:=by omega
  have h2:i < ys.length:=by omega
  refine .inr ⟨⟨xs,ys,_,_,hx2,hy2,List.getElem?_eq_getElem h1,List.getElem?_eq_getElem h2⟩,fun u H3 q=>?_⟩
  obtain⟨tp,x,y,htn,rfl,rfl,ex,ey⟩:=q
  have ex:=ex xs hx2
  have ey:=ey ys hy2
  have s3:qk H2 (upd H2 tp (.tup [x,y])):=qk.og htn
  match ts,htl with
  | [_,_],_=>
   refine⟨tp,[x,y],rfl,yy.of qx,rfl,x,[y],rfl,y,[],rfl,rfl,?_⟩
   unfold VE
   dsimp only
   rw[if_pos rfl]
   refine he i x y _ _ ex ey (s2.trans s3) fun v H6 s6 pr=>⟨vs,s6 _ _ (s3 _ _ hv),by omega,min xs.length ys.length - (i + 1),by omega,rfl,hlt,⟨[some x,some y],rfl,rfl⟩,((s2.trans s3).trans s6).put hD,vs ++ [v],qx,by rw[List.length_append,hvl];rfl,fun j x' y' v' e1 e2 e3=>?_⟩
   by_cases hj:j < vs.length
   ·rw[List.getElem?_append_left hj] at e3
    exact hp j x' y' v' e1 e2 e3
   ·have hji:j=i:=by
     have:=(List.getElem?_eq_some_iff.mp e3).1
     rw[List.length_append,List.length_singleton] at this
     omega
    subst hji
    rw[List.getElem?_append_right (by omega),hvl,Nat.sub_self] at e3
    rw[ex] at e1
    rw[ey] at e2
    cases e1
    cases e2
    cases e3
    exact pr
 ·have e:i=min xs.length ys.length:=by omega
  refine .inl ⟨⟨xs,ys,hx2,hy2,by omega⟩,hd D H2 vs s2 hD hv (by omega) hp⟩
end L2
namespace L2
open PyProof.Rows PySem PySem.Spec
noncomputable def rX (h:Heap) (e C:Addr) (d:Option Addr) (tb:Value):Prop:=∃vs sl,h.get? e=some ⟨.ref C,d,.fields vs,sl⟩∧vs.size=6∧vs[1]?=some tb∧vs[2]?=some .none
noncomputable def KN (h:Heap) (T:Addr) (fl:Value):Prop:=∃oT ts,h.get? T=some oT∧oT.data=.fields ts∧ts[3]?=some fl
structure cF (fs ch:List Addr) (h h':Heap):Prop where
 keep:∀b o,h.get? b=some o→b∉fs→b∉ch→h'.get? b=some o
 slot:∀b o,h.get? b=some o→b∈fs→b∉ch→∃sl,h'.get? b=some { o with slots:=sl }
 there:∀b o,h.get? b=some o→∃o',h'.get? b=some o'
theorem cF.trans {fs ch:List Addr} {h h1 h2:Heap} (a:cF fs ch h h1) (b:cF fs ch h1 h2):cF fs ch h h2 where
 keep:=fun c o e hf hc=>b.keep c o (a.keep c o e hf hc) hf hc
 slot:=fun c o e hf hc=>by
  obtain⟨sl,e1⟩:=a.slot c o e hf hc
  obtain⟨sl',e2⟩:=b.slot c _ e1 hf hc
  exact⟨sl',e2⟩
 there:=fun c o e=>by
  obtain⟨o',e1⟩:=a.there c o e
  exact b.there c o' e1
theorem cF.mono {fs ch ch':List Addr} {h h1:Heap} (a:cF fs ch h h1) (hs:∀b∈ch,b∈ch'):cF fs ch' h h1:=
 ⟨fun c o e hf hc=>a.keep c o e hf fun z=>hc (hs c z),fun c o e hf hc=>a.slot c o e hf fun z=>hc (hs c z),a.there⟩
section
variable {M:Model} {A:Around} {E:Value→Shared→Prop} {s:Shared} {base:Heap} {env:Env} {outer:List Env} {L e C:Addr} {d:Option Addr}
theorem cF.one {fs:List Addr} {h:Heap} {a:Addr} {f:Obj→Obj} {o:Obj} (ha:h.get? a=some o) (hf:(f o).isFreed=false):cF fs [a] h (h.update a f):=by
 have ne:∀b,b∉[a]→a≠b:=fun b hb q=>hb (by rw[q];exact List.mem_singleton.mpr rfl)
 refine⟨fun b u e _ hc=>(Heap.get?_update_other _ _ (ne b hc)).trans e,fun b u e _ hc=>⟨u.slots,(Heap.get?_update_other _ _ (ne b hc)).trans e⟩,fun b u e=>?_⟩
 by_cases q:a=b
 ·subst q;exact⟨_,Heap.get?_update_self _ ha hf⟩
 ·exact⟨u,(Heap.get?_update_other _ _ q).trans e⟩
theorem cF.push {fs ch:List Addr} {h:Heap} {o:Obj}:cF fs ch h (h.push o):=
 ⟨fun b u e _ _=>Heap.get?_push_of_some _ e,fun b u e _ _=>⟨u.slots,Heap.get?_push_of_some _ e⟩,fun b u e=>⟨u,Heap.get?_push_of_some _ e⟩⟩
theorem cF.slots {fs ch:List Addr} {h h':Heap} (x:Heap.SlotsOnly fs h h'):cF fs ch h h':=
 ⟨fun b u e hf _=>(x.2.1 b hf).trans e,fun b u e _ _=>x.2.2 b u e,fun b u e=>by obtain⟨sl,q⟩:=x.2.2 b u e;exact⟨_,q⟩⟩
theorem rX.slots {h h1 : Heap} {l : List Env} {tb : Value} (hx : rX h e C d tb) (hl : h.FunFrames base l) (k : Heap.SlotsOnly (l.filterMap (·.frame)) h h1) : rX h1 e C d tb := by
  obtain ⟨vs, sl, he, r⟩ := hx
  refine ⟨vs, sl, (k.2.1 e fun m => ?_).trans he, r⟩
  obtain ⟨_, o, ho, no⟩ := hl.mem m
  cases he.symm.trans ho
  exact no vs rfl
theorem entry_put {tb top : Value} {pl : List Value} {Q : Unit → Shared → Prop} (ip : IsPlace pl) (hx : rX s.heap e C d tb)
    (q : ∀ h' T, s.heap.objs.size ≤ T → rX h' e C d (.ref T) → KN h' T (rawInt L) → (∀ fs, cF fs [e] s.heap h') → Q () { s with heap := h' }) : wpAny M A (EntryCells.newEntry top (.ref L) .none (rawInt L) .none pl >>= setField (.ref e) 1) Q E s := by
  obtain ⟨vs, sl, he, hsz, h1, h2⟩ := hx
  have nE := ip.sizeOk5 top (.ref L) .none (rawInt L) .none
  unfold EntryCells.newEntry newFields
  generalize ets : List.toArray _ = ts at nE
  have h3 : ts[3]? = some (rawInt L) := by rw [← ets]; rfl
  refine wpAny_bind (wpAny_newObj_type ?_ nE)
  generalize eot : ({ cls := .type "traceback", data := .fields ts } : Obj) = ot
  have nf : (Obj.mapFields (·.setIfInBounds 1 (Value.ref s.heap.objs.size)) ⟨.ref C, d, .fields vs, sl⟩).isFreed = false := Obj.isFreed_of_fields (Obj.data_mapFields rfl _)
  have ge : (s.heap.push ot).get? e = some ⟨.ref C, d, .fields vs, sl⟩ := Heap.get?_push_of_some _ he
  refine wpAny_setField ge rfl (by omega) (q _ s.heap.objs.size (Nat.le_refl _) ⟨vs.setIfInBounds 1 (Value.ref s.heap.objs.size), sl, Heap.get?_update_self _ ge nf, by simpa using hsz, by simp [hsz], ?_⟩ ⟨ot, ts, (Heap.get?_update_other _ _ (Nat.ne_of_lt (Heap.lt_size he))).trans (Heap.get?_push_size _ (by rw [← eot]; rfl)), by rw [← eot], h3⟩ fun fs => cF.push.trans (cF.one ge nf))
  rw [Array.getElem?_setIfInBounds_ne (by decide)]
  exact h2
theorem a8 {Q : Unit → Shared → Prop} (hfr : A.frames = some (env :: outer)) (hl : s.heap.FunFrames base (env :: outer)) (hf : env.frame = some L) (hx : rX s.heap e C d .none)
    (hQ : ∀ h' T, s.heap.objs.size ≤ T → rX h' e C d (.ref T) → KN h' T (rawInt L) → cF ((env :: outer).filterMap (·.frame)) [e] s.heap h' → Q () { s with heap := h' }) : wpAny M A (noteFrame (.ref e) env) Q E s := by
  obtain ⟨_, _, he, _, h1, _⟩ := id hx
  unfold noteFrame
  rw [hf]
  refine wpAny_bind (wpAny_field he rfl h1 ?_)
  rw [if_neg (by decide)]
  exact wpAny_bind (wpAny_frameOf_fun hfr hl hf fun h0 k0 => wpAny_bind (wpAny_entryPlaceOf fun _ ip => entry_put ip (hx.slots hl k0) fun h' T k1 k2 k3 k4 => hQ h' T (k0.1 ▸ k1) k2 k3 ((cF.slots k0).trans (k4 _))))
theorem Q7 {T0 : Addr} {Q : Unit → Shared → Prop} (hfr : A.frames = some (env :: outer)) (hl : s.heap.FunFrames base (env :: outer)) (hf : env.frame = some L) (hx : rX s.heap e C d (.ref T0)) (ht : KN s.heap T0 .none) (hne : T0 ≠ e)
    (hQ : ∀ h' T, s.heap.objs.size ≤ T → rX h' e C d (.ref T) → KN h' T (rawInt L) → cF ((env :: outer).filterMap (·.frame)) [e, T0] s.heap h' → Q () { s with heap := h' }) : wpAny M A (noteFrame (.ref e) env) Q E s := by
  obtain ⟨vs, sl, he, hsz, h1, h2⟩ := hx
  obtain ⟨oT, ts, gT, dT, h3⟩ := ht
  have t0 : cF ((env :: outer).filterMap (·.frame)) [T0] s.heap (s.heap.update T0 (Obj.mapFields (·.setIfInBounds 3 Value.none))) := cF.one gT (Obj.isFreed_of_fields (Obj.data_mapFields dT _))
  have x0 : rX (s.heap.update T0 (Obj.mapFields (·.setIfInBounds 3 Value.none))) e C d (.ref T0) := ⟨vs, sl, (Heap.get?_update_other _ _ hne).trans he, hsz, h1, h2⟩
  have l0 : (s.heap.update T0 (Obj.mapFields (·.setIfInBounds 3 Value.none))).FunFrames base (env :: outer) := hl.of_keeps fun b o gb no => by
    refine ⟨o, (Heap.get?_update_other _ _ fun z => ?_).trans gb, rfl⟩
    cases gT.symm.trans (z ▸ gb)
    exact no ts dT
  unfold noteFrame
  rw [hf]
  refine wpAny_bind (wpAny_field he rfl h1 ?_)
  rw [if_pos (by simp)]
  refine wpAny_bind (wpAny_field gT dT h3 ?_)
  rw [if_neg (by simp [rawInt])]
  refine wpAny_bind (wpAny_setField gT dT (Array.getElem?_eq_some_iff.mp h3).1 (wpAny_bind (wpAny_frameOf_fun hfr l0 hf fun h4 k0 => wpAny_bind (wpAny_entryPlaceOf fun _ ip => entry_put ip (x0.slots l0 k0) fun h' T k1 k2 k3 k4 => ?_))))
  refine hQ h' T ?_ k2 k3 ((t0.mono (by simp)).trans ((cF.slots k0).trans ((k4 _).mono (by simp))))
  rw [← Heap.size_update s.heap T0, ← k0.1]
  exact k1
theorem land {T:Addr} {fl:Value} {Q:Unit→Shared→Prop} (hx:rX s.heap e C d (.ref T)) (ht:KN s.heap T fl) (hne:T≠e)
  (hQ:∀h',rX h' e C d (.ref T)→KN h' T .none→(∀fs,cF fs [T] s.heap h')→Q () { s with heap:=h' }):wpAny M A (setFlight (.ref e) none) Q E s:=by
 obtain⟨vs,sl,he,hsz,h1,h2⟩:=hx
 obtain⟨oT,ts,hT,hdT,h3⟩:=ht
 have h3':3 < ts.size:=(Array.getElem?_eq_some_iff.mp h3).1
 have nf:(Obj.mapFields (·.setIfInBounds 3 Value.none) oT).isFreed=false:=Obj.isFreed_of_fields (Obj.data_mapFields hdT _)
 unfold setFlight
 refine wpAny_bind (wpAny_field he rfl h1 ?_)
 rw[if_pos (show (Value.ref T != Value.none)=true from by simp)];refine wpAny_setField hT hdT h3' (hQ _ ⟨vs,sl,(Heap.get?_update_other _ _ hne).trans he,hsz,h1,h2⟩ ⟨_,_,Heap.get?_update_self _ hT nf,Obj.data_mapFields hdT _,by simp [h3']⟩ fun fs=>cF.one hT nf)
theorem iT {Q:Unit→Shared→Prop} (hfr:A.frames=some (env :: outer)) (hl:s.heap.FunFrames base (env :: outer)) (hf:env.frame=some L) (hx:rX s.heap e C d .none)
  (hQ:∀h' T,s.heap.objs.size≤T→T≠e→rX h' e C d (.ref T)→KN h' T .none→cF ((env :: outer).filterMap (·.frame)) [e,T] s.heap h'→Q () { s with heap:=h' }):wpAny M A (leaving env (.ref e)) Q E s:=by
 have he:e < s.heap.objs.size:=by obtain⟨vs,sl,he,_⟩:=hx;exact Heap.lt_size he
 unfold leaving
 refine wpAny_bind (a8 hfr hl hf hx fun h1 T k1 k2 k3 k4=>?_)
 have hne:T≠e:=Nat.ne_of_gt (Nat.lt_of_lt_of_le he k1)
 exact land k2 k3 hne fun h2 j1 j2 j3=>hQ h2 T k1 hne j1 j2 ((k4.mono (by simp)).trans ((j3 _).mono (by simp)))
theorem aU {T0:Addr} {Q:Unit→Shared→Prop} (hfr:A.frames=some (env :: outer)) (hl:s.heap.FunFrames base (env :: outer)) (hf:env.frame=some L) (hx:rX s.heap e C d (.ref T0)) (ht:KN s.heap T0 .none) (hne0:T0≠e)
  (hQ:∀h' T,s.heap.objs.size≤T→T≠e→rX h' e C d (.ref T)→KN h' T .none→cF ((env :: outer).filterMap (·.frame)) [e,T0,T] s.heap h'→Q () { s with heap:=h' }):wpAny M A (leaving env (.ref e)) Q E s:=by
 have he:e < s.heap.objs.size:=by obtain⟨vs,sl,he,_⟩:=hx;exact Heap.lt_size he
 unfold leaving
 refine wpAny_bind (Q7 hfr hl hf hx ht hne0 fun h1 T k1 k2 k3 k4=>?_)
 have hne:T≠e:=Nat.ne_of_gt (Nat.lt_of_lt_of_le he k1)
 exact land k2 k3 hne fun h2 j1 j2 j3=>hQ h2 T k1 hne j1 j2 ((k4.mono (by simp)).trans ((j3 _).mono (by simp)))
end
end L2
namespace L2
open PyProof.Rows PySem PySem.Spec
noncomputable def xO (e C:Addr) (d:Option Addr):HO:=.ext fun h=>∃tb,rX h e C d tb
theorem WJ {P:Program} {w:World} {H:Hp} {h:Heap} {e C:Addr} {d:Option Addr} {tb:Value} (x:rX h e C d tb):xb P w H h e (xO e C d):=by
 obtain⟨vs,sl,he,r⟩:=x
 refine⟨⟨tb,vs,sl,he,r⟩,⟨_,he⟩,fun h1 h2 ⟨tb',vs',sl',he',r'⟩ k=>⟨tb',vs',sl',k _ he',r'⟩⟩
structure Hv (a C:Addr) (d:Option Addr) (n:Nat) (H:Hp) (h:Heap) (T:Addr):Prop where
 at':rX h a C d (.ref T)
 tr:KN h T .none
 ne:T≠a
 new:n≤T
 free:H T=none
 is:H a=some (xO a C d)
noncomputable def ar (P:Program) (w:World):sQ:=fun outer H s E e s'=>∃(a C:Addr) (d:Option Addr) (T:Addr) (H':Hp),e=.ref a∧s'.os=s.os∧AllBare s'.gens∧Un (ao outer) [] H H' s.heap s'.heap∧pW P w H' s'.heap∧Hv a C d s.heap.objs.size H' s'.heap T∧E (.ref C) (some a) H'
theorem Z0 {P:Program} {w:World} {H:Hp} {h h':Heap} {fs ch:List Addr} {a C:Addr} {d:Option Addr} {tb:Value} (x:pW P w H h) (t:cF fs ch h h') (hf:∀b∈fs,H b=none) (hc:∀b∈ch,b=a∨H b=none) (ha:H a=some (xO a C d)) (hx:rX h' a C d tb):pW P w H h':=by
 intro b o e
 by_cases q:b=a
 ·subst q
  rw[ha] at e
  cases e
  exact WJ hx
 ·have kp:∀c u,c≠a→H c≠none→h.get? c=some u→h'.get? c=some u:=fun c u hca hcn e=>t.keep c u e (fun z=>hcn (hf c z)) fun z=>(hc c z).elim hca hcn
  refine(x b o e).ax (fun c u hcu e'=>?_) (fun _ z=>z) (fun _ _ z=>z)
  rcases hcu with rfl | hcu
  ·exact kp c u q (by rw[e];exact fun z=>nomatch z) e'
  ·refine kp c u (fun z=>?_) (by rw[hcu];exact fun z=>nomatch z) e'
   rw[z,ha] at hcu
   cases hcu
end L2
namespace L2
open PyProof.Rows PySem PySem.Spec
section
variable {X:Cx} {pins:List (Addr × Obj)} {σ:St} {H:Hp} {s:Shared} {a C:Addr} {d:Option Addr} {E:XK}
theorem Inv.Pz (I:Inv X pins σ H s) {h':Heap} {ch:List Addr} (hex:X.ex=[]) (t:cF (ao X.stack) ch s.heap h') (hc:∀b∈ch,H b≠none∨X.s₀.heap.objs.size≤b):Un X.fs [] X.H₀ H X.s₀.heap h':=by
 have u:=I.base
 rw[hex] at u
 have nch:∀b o,X.s₀.heap.get? b=some o→X.H₀ b=none→b∉ch:=fun b o e n hb=>by
  rcases hc b hb with q | q
  ·exact q (u.free b o e n (by simp))
  ·exact absurd (Heap.lt_size e) (Nat.not_lt.mpr q)
 have nloc:∀b o,X.s₀.heap.get? b=some o→b≠X.env.locals:=fun b o e z=>absurd (Heap.lt_size e) (Nat.not_lt.mpr (by rw[z];exact I.ok.above))
 refine⟨fun b o e n hb _=>?_,fun b o e n hb _=>?_,u.free,fun b o e _=>?_,u.iy,u.sP,u.ij⟩
 ·refine t.keep b o (u.keep b o e n hb (by simp)) (fun z=>?_) (nch b o e n)
  rcases List.mem_cons.mp (I.sy b z) with q | q
  ·exact nloc b o e q
  ·exact hb q
 ·obtain⟨sl,e1⟩:=u.slot b o e n hb (by simp)
  by_cases q:b∈ao X.stack
  ·obtain⟨sl',e2⟩:=t.slot b _ e1 q (nch b o e n)
   exact⟨sl',e2⟩
  ·exact⟨sl,t.keep b _ e1 q (nch b o e n)⟩
 ·obtain⟨o',e1⟩:=u.there b o e (by simp)
  exact t.there b o' e1
theorem Inv.W2 {M:Model} {EE:Value→Shared→Prop} (I:Inv X pins σ H s) (hst:X.stack=X.env :: X.outer) (hf:X.env.frame=some X.env.locals) (hex:X.ex=[]) (ha:H a=some (xO a C d)) (hx:rX s.heap a C d .none) (hE:E (.ref C) (some a) H) :
  wpAny M X.A (leaving X.env (.ref a)) (fun _ s''=>ar X.prog X.w X.outer X.H₀ X.s₀ E (.ref a) s'') EE s:=by
 have hfr:=I.ok.frames
 have hst':=I.stack
 have hfree:=I.cG
 rw[hst] at hfr hst'
 refine iT hfr hst' hf hx fun h' T k1 k2 k3 k4 k5=>?_
 have hT:H T=none:=I.jc.fresh k1
 have hs:X.s₀.heap.objs.size≤T:=Nat.le_trans I.sz k1
 have k5':cF (ao X.stack) [a,T] s.heap h':=by rw[hst];exact k5
 refine⟨a,C,d,T,H,rfl,I.os,I.bare,I.Pz hex k5' (fun b hb=>?_),Z0 I.jc k5' hfree (fun b hb=>?_) ha k3,⟨k3,k4,k2,hs,hT,ha⟩,hE⟩
 ·simp only[List.mem_cons,List.not_mem_nil,or_false] at hb
  rcases hb with rfl | rfl
  ·exact .inl (by rw[ha];exact fun z=>nomatch z)
  ·exact .inr hs
 ·simp only[List.mem_cons,List.not_mem_nil,or_false] at hb
  rcases hb with rfl | rfl
  ·exact .inl rfl
  ·exact .inr hT
theorem Inv.Xu {M:Model} {EE:Value→Shared→Prop} {T0:Addr} {n:Nat} (I:Inv X pins σ H s) (hst:X.stack=X.env :: X.outer) (hf:X.env.frame=some X.env.locals) (hex:X.ex=[]) (F:Hv a C d n H s.heap T0) (hn:X.s₀.heap.objs.size≤n) (hE:E (.ref C) (some a) H) :
  wpAny M X.A (leaving X.env (.ref a)) (fun _ s''=>ar X.prog X.w X.outer X.H₀ X.s₀ E (.ref a) s'') EE s:=by
 have hfr:=I.ok.frames
 have hst':=I.stack
 have hfree:=I.cG
 rw[hst] at hfr hst'
 refine aU hfr hst' hf F.at' F.tr F.ne fun h' T k1 k2 k3 k4 k5=>?_
 have hT:H T=none:=I.jc.fresh k1
 have hs:X.s₀.heap.objs.size≤T:=Nat.le_trans I.sz k1
 have k5':cF (ao X.stack) [a,T0,T] s.heap h':=by rw[hst];exact k5
 refine⟨a,C,d,T,H,rfl,I.os,I.bare,I.Pz hex k5' (fun b hb=>?_),Z0 I.jc k5' hfree (fun b hb=>?_) F.is k3,⟨k3,k4,k2,hs,hT,F.is⟩,hE⟩
 ·simp only[List.mem_cons,List.not_mem_nil,or_false] at hb
  rcases hb with (rfl | rfl | rfl)
  ·exact .inl (by rw[F.is];exact fun z=>nomatch z)
  ·exact .inr (Nat.le_trans hn F.new)
  ·exact .inr hs
 ·simp only[List.mem_cons,List.not_mem_nil,or_false] at hb
  rcases hb with (rfl | rfl | rfl)
  ·exact .inl rfl
  ·exact .inr F.free
  ·exact .inr hT
theorem Inv.Gy {e:Value} {s':Shared} (I:Inv X pins σ H s) (h:ar X.prog X.w X.stack H s E e s'):∃a C d T H',e=.ref a∧Inv X pins σ H' s'∧Hv a C d X.s₀.heap.objs.size H' s'.heap T∧E (.ref C) (some a) H':=by
 obtain⟨a,C,d,T,H',rfl,os,bare,un,jc,F,q⟩:=h
 refine⟨a,C,d,T,H',rfl,I.JO os (ch:=[]) un jc bare (fun b z=>absurd z (by simp)),⟨F.at',F.tr,F.ne,Nat.le_trans I.sz F.new,F.free,F.is⟩,q⟩
end
end L2
namespace L2
open PyProof.Rows PySem PySem.Spec
section
variable {P:Program} {w:World} {K:PySem.W.Frag} {mg:Str→Option Value} {base:Heap}
theorem Qk {N:List Str} {qual:Str} {scope:Scope} {f:Addr} {cd:Value} {A:Around} {outer:List Env} {s:Shared} {H:Hp} {E E':XK} (hE:∀c a H,E c a H→E' c a H):Passes (ar P w) (nN (ar P w) P w K mg base N qual scope f cd A outer s H E') E:=by
 intro pins σ H1 s1 e s' I h
 obtain⟨a,C,d,T,H',rfl,I',F,q⟩:=I.Gy h
 exact I'.Xu rfl rfl rfl F (Nat.le_refl _) (hE _ _ _ q)
theorem K2.Hf {x qual:Str} {st:Stmt} {f:Addr} {fd:FuncData} {N ps:List Str} {k:Nat} {sp:Sp} (F:K2 K x qual st f fd) (S:qo N ps (z4 st)) (len:∀vs H Q E,sp vs H Q E→vs.length=ps.length)
  (hbody:∀(cdv:Value) (A:Around) (outer:List Env) (s:Shared) (H:Hp) (vs:List V) (Q:VK) (E:XK),vJ k (A.deeper (envOfC qual (z4 st) s.heap.objs.size f cdv))→sp vs H Q E→
   ∃t,ZV (nN (ar P w) P w K mg base N qual (z4 st) f cdv A outer s H E) (z9 st) t∧t { nx:=fun _ H'=>Q .non H',rt:=Q } (start N vs) H):qi P w K mg base (ar P w) (k + 1) f fd ps sp:=by
 obtain⟨oc,od,kV,doc,pm,an,cdv,ct,osl,rfl,lk,hcd⟩:=F.ex
 exact Wh lk hcd S len fun A outer s H vs Q E hr hsp=>hbody cdv A outer s H vs Q E hr hsp
end
end L2
namespace L2
open PyProof.Rows PySem PySem.Spec
noncomputable def qS:List Value→Bool
 | .ref _ :: r=>qS r
 | l=>l == [.type "ValueError",.type "Exception",.type "BaseException",.type "object"]
theorem lC (self:Value):∀{l:List Value},qS l=true→refuseLoop self "__setattr__" l=pure ()
 | .ref c :: r,e=>by rw[refuseLoop_ref];exact lC self e
 | [],e=>by simp [qS] at e
 | .type n :: r,e=>by
  have:(Value.type n :: r)=[.type "ValueError",.type "Exception",.type "BaseException",.type "object"]:=by simpa [qS] using e
  rw[this];exact PySem.F.store_ValueError.passes self
 | .none :: r,e=>by simp [qS] at e
 | .bool _ :: r,e=>by simp [qS] at e
 | .int _ _ :: r,e=>by simp [qS] at e
 | .str _ _ :: r,e=>by simp [qS] at e
 | .builtin _ :: r,e=>by simp [qS] at e
 | .float _ _ :: r,e=>by simp [qS] at e
theorem QZ:∀{l:List Value},qS l=true→l.contains (.type "object")=true∧l.isEmpty=false
 | .ref c :: r,e=>⟨by rw[List.contains_cons,(QZ (l:=r) e).1,Bool.or_true],rfl⟩
 | [],e=>by simp [qS] at e
 | .type n :: r,e=>by
  have:(Value.type n :: r)=[.type "ValueError",.type "Exception",.type "BaseException",.type "object"]:=by simpa [qS] using e
  rw[this];exact⟨by decide,rfl⟩
 | .none :: r,e=>by simp [qS] at e
 | .bool _ :: r,e=>by simp [qS] at e
 | .int _ _ :: r,e=>by simp [qS] at e
 | .str _ _ :: r,e=>by simp [qS] at e
 | .builtin _ :: r,e=>by simp [qS] at e
 | .float _ _ :: r,e=>by simp [qS] at e
structure V8 (K:PySem.W.Frag) (C:Addr):Prop where
 mro:(PySem.W.clsIn K C).any (fun cd=>qS cd.mro && cd.hasDict)=true
 sa:PySem.W.findIn K (.ref C) "__setattr__" = some (some (.builtin "object.__setattr__"))
section
variable {prog:Program} {w:World} {A:Around} {K:PySem.W.Frag} {C x:Addr} {s:Shared} {R:Result→Shared→Prop}
theorem au {ox : Obj} {od : Option Obj} {name : Str} {tk : Tok} {v : Value} (X : K.In s.heap) (I : PySem.W.InstAt s.heap x ox C od) (hp : (PySem.W.clsIn K C).any (fun cd => qS cd.mro && cd.hasDict) = true) (ht : PySem.W.findIn K (.ref C) name = some none)
    (h : ∀ b, wpAny (model prog w) A.in1 (Builtin.ObjectAttr.storeInOwnDict (.ref x) (.ref C) (.str name tk) name v b) (fun f s' => f = .done (.ret .none) ∧ R (.ok (.ret .none)) s') (fun _ _ => False) s) : codeAny (model prog w) A (.call (.builtin "object.__setattr__") ⟨[.ref x, .str name tk, v], []⟩) R s := by
  obtain ⟨cd, hc, ho⟩ := PySem.W.any_some hp
  have ov := (Bool.and_eq_true_iff.mp ho).1
  obtain ⟨top, some'⟩ := QZ ov
  have lists : PySem.W.Looks (model prog w) s.heap (mroOf (.ref C)) cd.mro := (PySem.W.looks_clsIn X hc).andThen .now
  have over : PySem.W.mroIn K C (.type "object") = some true := by
    unfold PySem.W.mroIn
    simp only [hc, Option.bind_some, some', top, Bool.false_eq_true, if_false]
  have St := PySem.F.store_object
  have is : PySem.W.Looks (model prog w) s.heap (isInstance (.ref x) (.type "object")) true := I.type.andThen (PySem.W.looks_mroIn X over)
  have fit := St.args (.ref x) (.str name tk) v
  refine codeAny_call_builtin St.slot.plain St.entry (PySem.W.check_slot (M := model prog w) (i := "object.__setattr__") (owner := "object") (n := "__setattr__") St.kind St.split is fit ?_)
  rw [PySem.W.osa_eq, refuse_eq]
  refine wpAny_bind (wpAny_bind (I.type.here (wpAny_bind (lists.here ((lC _ ov).symm ▸ wpAny_pure ?_)))))
  refine wpAny_bind (I.type.here (wpAny_bind ((PySem.W.looks_findIn X ht).here (wpAny_bind (wpAny_pure (wpAny_mono (h _) (fun f s' z => ?_) fun _ _ z => z.elim))))))
  obtain ⟨rfl, z⟩ := z
  exact z
theorem bare_ns {h : Heap} {a : Addr} (g : h.get? a = some { cls := .type "dict", data := .dict #[] }) : h.Ns1 a fun _ => none := Heap.Ns1.of_empty ⟨_, _, _, g, rfl, fun _ z => absurd z (Array.not_mem_empty _), fun _ => rfl⟩
theorem ns_line {h : Heap} {a : Addr} {m : Str → Option Value} {ns : List Str} (n : h.Ns1 a m) (hw : PySem.Within m ns) (nE : ns.length ≤ 1001) {Q : Unit → Shared → Prop} {E : Value → Shared → Prop} {g : Array GenState} {dr : Drawn} {t : Nat} {os : OsState} (q : Q () ⟨h, g, dr, t, os⟩) : wpAny (model prog w) A (lookBehind a) Q E ⟨h, g, dr, t, os⟩ := by
  obtain ⟨o, es, ep, ho, hd, hcnt⟩ := n.count hw
  exact wpAny_lookBehind ho (by rw [hd]; exact pastItsLine_dict (by rw [sizeLine_eq]; omega)) q
theorem ZK {E : Value → Shared → Prop} {name : Str} {v : Value} {vs : Array Value} {sl : Array (Option Value)} {Q : Unit → Shared → Prop} (X : K.In s.heap) (c : V8 K C) (hn : PySem.W.findIn K (.ref C) name = some none) (he : s.heap.get? x = some ⟨.ref C, none, .fields vs, sl⟩)
    (h : ∀ h' tk, h'.get? x = some ⟨.ref C, some s.heap.objs.size, .fields vs, sl⟩ → h'.Ns1 s.heap.objs.size (fun y => if y = name then some v else none) → (∀ b o, b ≠ x → s.heap.get? b = some o → h'.get? b = some o) → Q () { s with heap := h', toks := tk }) : wpAny (model prog w) A (setAttr (.ref x) name v) Q E s := by
  have I : PySem.W.InstAt s.heap x ⟨.ref C, none, .fields vs, sl⟩ C none := ⟨he, rfl, rfl, trivial⟩
  obtain ⟨cd, hc, ho⟩ := PySem.W.any_some c.mro
  have hd := (Bool.and_eq_true_iff.mp ho).2
  have far := Nat.ne_of_lt (Heap.lt_size he)
  have up : ∀ {b : Addr} {o : Obj}, s.heap.get? b = some o → (s.heap.push { cls := .type "dict", data := .dict #[] }).get? b = some o := fun q => Heap.get?_push_of_some _ q
  have clsd : PySem.W.Looks (model prog w) s.heap _ _ := PySem.W.looks_clsIn X hc
  refine PySem.W.set_plain X I c.sa (au (s := { s with toks := s.toks + 1 }) X I c.mro hn fun b => ?_)
  refine wpAny_bind (wpAny_pure (wpAny_bind (wpAny_bind (wpAny_loadPart he (wpAny_bind (clsd.here (s := { s with toks := s.toks + 1 }) ?_))))))
  simp only [hd, Bool.not_true, Bool.false_eq_true, if_false, typeHasDict]
  refine wpAny_bind (wpAny_alloc (wpAny_bind (wpAny_update (up he) (wpAny_pure (a := some s.heap.objs.size) ?_))))
  refine wpAny_bind (wpAny_pure (wpAny_bind (?_ : wpAny _ _ (nsSet _ _ _) _ _ _)))
  refine wpAny_nsSet1 (bare_ns ((Heap.get?_update_other _ _ far).trans (Heap.get?_push_at rfl rfl))) fun h' n k => ?_
  refine wpAny_bind (ns_line n (PySem.Within.cons name v PySem.Within.nil) (Nat.succ_le_succ (Nat.zero_le 1000)) (wpAny_pure ⟨rfl, h h' _ ((k.2 x far).trans (Heap.get?_update_self _ (up he) rfl)) n fun b o nb q => ?_⟩))
  exact (k.2 b (Nat.ne_of_lt (Heap.lt_size q))).trans ((Heap.get?_update_other _ _ (Ne.symm nb)).trans (up q))
theorem JJ {E : Value → Shared → Prop} {name : Str} {v : Value} {vs : Array Value} {sl : Array (Option Value)} {dx : Addr} {mA : Str → Option Value} {ns : List Str} {Q : Unit → Shared → Prop} (X : K.In s.heap) (c : V8 K C) (hn : PySem.W.findIn K (.ref C) name = some none) (he : s.heap.get? x = some ⟨.ref C, some dx, .fields vs, sl⟩)
    (hd : s.heap.Ns1 dx mA) (hw : PySem.Within mA ns) (hsz : ns.length ≤ 1000) (h : ∀ h' tk, h'.Ns1 dx (fun y => if y = name then some v else mA y) → Heap.SameBut dx s.heap h' → Q () { s with heap := h', toks := tk }) : wpAny (model prog w) A (setAttr (.ref x) name v) Q E s := by
  obtain ⟨od, gd, _⟩ := tR hd
  have I : PySem.W.InstAt s.heap x ⟨.ref C, some dx, .fields vs, sl⟩ C (some od) := ⟨he, rfl, rfl, gd⟩
  obtain ⟨cd, hc, ho⟩ := PySem.W.any_some c.mro
  have hasd := (Bool.and_eq_true_iff.mp ho).2
  have clsd : PySem.W.Looks (model prog w) s.heap _ _ := PySem.W.looks_clsIn X hc
  refine PySem.W.set_plain X I c.sa (au (s := { s with toks := s.toks + 1 }) X I c.mro hn fun b => ?_)
  refine wpAny_bind (wpAny_pure (wpAny_bind (wpAny_bind (wpAny_loadPart he (wpAny_bind (clsd.here (s := { s with toks := s.toks + 1 }) ?_))))))
  rw [hasd]
  refine wpAny_pure (a := some dx) (wpAny_bind (wpAny_pure (wpAny_bind (wpAny_nsSet1 (s := { s with toks := s.toks + 1 }) hd fun h' n k => ?_))))
  exact wpAny_bind (ns_line n (PySem.Within.cons name v hw) (Nat.succ_le_succ hsz) (wpAny_pure ⟨rfl, h h' _ n k⟩))
end
end L2
namespace L2
open PyProof.Rows PySem PySem.Spec
section
end
end L2
namespace L2
open PyProof.Rows PySem PySem.Spec
noncomputable def xN (e C:Addr) (d:Option Addr):HO:=.ext fun h=>rX h e C d .none
noncomputable def xD (dx:Addr) (fs:List (Str × V)):HO:=.ext fun h=>∃mA,h.Ns1 dx mA∧(∀f,gI (fs.lookup f) (mA f))∧PySem.Within mA (fs.map (·.1))
theorem WQ {P:Program} {w:World} {H:Hp} {h:Heap} {e C:Addr} {d:Option Addr} (x:rX h e C d .none):xb P w H h e (xN e C d):=by
 obtain⟨vs,sl,he,r⟩:=x
 refine⟨⟨vs,sl,he,r⟩,⟨_,he⟩,fun h1 h2 ⟨vs',sl',he',r'⟩ k=>⟨vs',sl',k _ he',r'⟩⟩
theorem KD {P:Program} {w:World} {H:Hp} {h:Heap} {e C:Addr} {d:Option Addr} (x:pW P w H h) (q:H e=some (xN e C d)):rX h e C d .none:=(x e _ q).1
theorem WZ {P:Program} {w:World} {H:Hp} {h:Heap} {dx:Addr} {fs:List (Str × V)} {mA:Str→Option Value} (n:h.Ns1 dx mA) (r:∀f,gI (fs.lookup f) (mA f)) (wi:PySem.Within mA (fs.map (·.1))):xb P w H h dx (xD dx fs):=by
 have n':=n
 obtain⟨o,es,ep,ho,_⟩:=n'
 refine⟨⟨mA,n,r,wi⟩,⟨o,ho⟩,fun h1 h2 ⟨mA',⟨o',es',ep',ho',q⟩,r'⟩ k=>⟨mA',⟨o',es',ep',k _ ho',q⟩,r'⟩⟩
theorem Hx {P:Program} {w:World} {H:Hp} {h:Heap} {dx:Addr} {fs:List (Str × V)} (x:pW P w H h) (q:H dx=some (xD dx fs)):∃mA,h.Ns1 dx mA∧(∀f,gI (fs.lookup f) (mA f))∧PySem.Within mA (fs.map (·.1)):=(x dx _ q).1
section
variable {X:Cx} {pins:List (Addr × Obj)} {σ:St} {H:Hp} {s:Shared} {a C dx:Addr} {f:Str} {y:V} {u:Value} {o value:Expr} {ta tv:TE} {pos pos':Pos}
theorem eX {fs:List (Str × V)} {mA:Str→Option Value} (r:∀g,gI (fs.lookup g) (mA g)) (ry:RelV y u) (f:Str):∀g,gI ((qM f y fs).lookup g) ((fun z=>if z=f then some u else mA z) g):=fun g=>by
 rw[p8]
 by_cases q:g=f
 ·simp only[q,if_true];exact ry
 ·simp only[q,if_false];exact r g
theorem si {fs:List (Str × V)} {mA:Str→Option Value} (wi:PySem.Within mA (fs.map (·.1))) (f:Str):PySem.Within (fun z=>if z=f then some u else mA z) ((qM f y fs).map (·.1)):=fun g hg=>by
 by_cases q:g=f
 ·rw[q];exact(hZ f y fs).1
 ·refine(hZ f y fs).2 g (wi g fun z=>hg ?_)
  show (if g=f then some u else mA g)=none
  rw[if_neg q];exact z
theorem KR {A:Around} {E:Value→Shared→Prop} {Q:Unit→Shared→Prop} (I:Inv X pins σ H s) (e:H a=some (xN a C none)) (c:V8 X.K C) (n:qW X.K C f) (ry:RelV y u)
  (h:∀dx s',H dx=none→dx≠a→Inv X pins σ (upd (upd H dx (xD dx [(f,y)])) a (xN a C (some dx))) s'→Q () s'):wpAny (model X.prog X.w) A (setAttr (.ref a) f u) Q E s:=by
 obtain⟨vs,sl,he,hsz,h1,h2⟩:=KD I.jc e
 refine ZK I.pY c n he fun h' tk k1 k2 k3=>h s.heap.objs.size _ (I.jc.fresh (Nat.le_refl _)) (Nat.ne_of_gt (Heap.lt_size he)) ?_
 have hax:a≠s.heap.objs.size:=Nat.ne_of_lt (Heap.lt_size he)
 have k2':=k2
 obtain⟨od,es,ep,ho,hd,hr⟩:=k2'
 have nf:od.isFreed=false:=(Heap.get?_some_iff.mp ho).2
 have g1:(s.heap.push od).get? s.heap.objs.size=some od:=Heap.get?_push_size _ nf
 have n1:(s.heap.push od).Ns1 s.heap.objs.size (fun z=>if z=f then some u else none):=⟨od,es,ep,g1,hd,hr⟩
 have r0:∀g,gI (List.lookup g ([(f,y)]:List (Str × V))) ((fun z=>if z=f then some u else none) g):=eX (fs:=[]) (mA:=fun _=>none) (fun _=>True.intro) ry f
 have w0:PySem.Within (fun z=>if z=f then some u else none) (([(f,y)]:List (Str × V)).map (·.1)):=si (fs:=[]) (mA:=fun _=>none) (y:=y) (fun g hg=>absurd rfl hg) f
 have I1:=I.laid (a:=s.heap.objs.size) (o:=xD s.heap.objs.size [(f,y)]) (h':=s.heap.push od) (t':=s.toks) (fun b q z=>Heap.get?_push_of_some _ z) (Nat.le_refl _) (WZ n1 r0 w0)
 refine I1.write (x:=a) (e:=a) (h':=h') (t':=tk) (by rw[qB hax,e];exact True.intro) (.inl rfl) (fun b q hb z=>?_) ⟨_,k1⟩ (WQ ⟨vs,sl,k1,hsz,h1,h2⟩)
 by_cases qb:b=s.heap.objs.size
 ·subst qb
  rw[show (s.heap.push od).get? s.heap.objs.size=some od from g1] at z
  cases z
  exact ho
 ·refine k3 b q hb ?_
  rwa [Heap.get?_push_ne _ _ _ qb] at z
theorem KL {A:Around} {E:Value→Shared→Prop} {Q:Unit→Shared→Prop} {fs:List (Str × V)} (I:Inv X pins σ H s) (e:H a=some (xN a C (some dx))) (ed:H dx=some (xD dx fs)) (c:V8 X.K C) (n:qW X.K C f) (hl:fs.length≤900) (ry:RelV y u)
  (h:∀s',Inv X pins σ (upd H dx (xD dx (qM f y fs))) s'→Q () s'):wpAny (model X.prog X.w) A (setAttr (.ref a) f u) Q E s:=by
 obtain⟨vs,sl,he,hsz,h1,h2⟩:=KD I.jc e
 obtain⟨mA,n1,r1,w1⟩:=Hx I.jc ed
 refine JJ I.pY c n he n1 w1 (by rw[List.length_map];omega) fun h' tk k1 k2=>h _ ?_
 have hd:∃o,h'.get? dx=some o:=let ⟨o,_,_,e',_⟩:=k1;⟨o,e'⟩
 exact I.write (x:=dx) (e:=dx) (by rw[ed];exact True.intro) (.inl rfl) (fun b q hb z=>(k2.2 b hb).trans z) hd (WZ k1 (eX r1 ry f) (si w1 f))
noncomputable def PX (K:PySem.W.Frag) (ta tv:TE) (f:Str):TS:=fun D σ H=>tv σ H fun y H1=>ta σ H1 fun x H2=>∃a C,x=.ref a∧V8 K C∧qW K C f∧
 ((H2 a=some (xN a C none)∧∀dx,H2 dx=none→dx≠a→D.nx σ (upd (upd H2 dx (xD dx [(f,y)])) a (xN a C (some dx))))∨
  (∃dx fs,H2 a=some (xN a C (some dx))∧H2 dx=some (xD dx fs)∧fs.length≤900∧D.nx σ (upd H2 dx (xD dx (qM f y fs)))))
theorem VB (ha:PE X o ta) (hv:PE X value tv) (hs:swapsWith value (some (.Attribute o f pos')) pos.line X.env=pure false):PS X (.Assign [.Attribute o f pos'] value pos) (PX X.K ta tv f):=by
 intro pins s σ H D I h
 refine plainObj_wpAny_Assign_Attribute (xl (hv pins s σ H _ I h) fun u s1 ⟨y,H1,I1,ry,q⟩=>xl (ha pins s1 σ H1 _ I1 q) fun ov s2 ⟨x,H2,I2,rx,a,C,ex,c,n,q2⟩=>?_) hs
 subst ex
 obtain rfl:ov=Value.ref a:=rx
 rcases q2 with ⟨e1,k⟩ | ⟨dx,fs,e1,e2,hl,k⟩
 ·exact KR I2 e1 c n ry fun dx s3 hn hne I3=>⟨σ,_,I3,k dx hn hne⟩
 ·exact KL I2 e1 e2 c n hl ry fun s3 I3=>⟨σ,_,I3,k⟩
theorem su:∀{l:List Value},qS l=true→l.contains (.type "ValueError")=true∧l.contains (.type "BaseException")=true∧l.contains (.type "AttributeError")=false∧l.contains (.type "NameError")=false
 | .ref c :: r,e=>by
  obtain⟨a,b,c,d⟩:=su (l:=r) e
  exact⟨by rw[List.contains_cons,a,Bool.or_true],by rw[List.contains_cons,b,Bool.or_true],by rw[List.contains_cons,c];rfl,by rw[List.contains_cons,d];rfl⟩
 | [],e=>by simp [qS] at e
 | .type n :: r,e=>by
  have:(Value.type n :: r)=[.type "ValueError",.type "Exception",.type "BaseException",.type "object"]:=by simpa [qS] using e
  rw[this];decide
 | .none :: r,e=>by simp [qS] at e
 | .bool _ :: r,e=>by simp [qS] at e
 | .int _ _ :: r,e=>by simp [qS] at e
 | .str _ _ :: r,e=>by simp [qS] at e
 | .builtin _ :: r,e=>by simp [qS] at e
 | .float _ _ :: r,e=>by simp [qS] at e
noncomputable def fF (K:PySem.W.Frag) (C:Addr):Bool:=match K.lookup C with
 | some ⟨c,_,.cls cd,sl⟩=>c == .type "type" && cd.mro.head? == some (.ref C) && qS cd.mro && !cd.hasDel && sl.size == 6 && sl[4]? == some (some (.builtin "ValueError.__new__"))
 | _=>false
theorem KC {K : PySem.W.Frag} {h : Heap} (x : K.In h) (e : fF K C = true) : ∃ n1 n2 N l1 bm b1 l2 l3 b2 c1 d1 v0 v1 v2 v3 v5, h.get? C = some (excClassObj n1 n2 C N l1 bm b1 l2 l3 b2 c1 d1 v0 v1 v2 v3 v5 "ValueError.__new__") ∧ qS (.ref C :: bm) = true := by
  unfold fF at e
  split at e
  · rename_i c dd cd sl hk
    simp only [Bool.and_eq_true, beq_iff_eq, Bool.not_eq_true'] at e
    obtain ⟨⟨⟨⟨⟨rfl, hm⟩, hv⟩, hdel⟩, hsz⟩, h4⟩ := e
    rcases cd with ⟨n1, l1, mro, N, n2, b1, l2, l3, b2, c1, del⟩
    cases hdel
    cases mro with
    | nil => cases hm
    | cons m bm =>
      cases hm
      obtain ⟨v0, v1, v2, v3, v5, hl⟩ := six_places (l := sl.toList) (v := some (.builtin "ValueError.__new__")) (by simpa using hsz) (by simpa using h4)
      cases sl
      cases hl
      exact ⟨n1, n2, N, l1, bm, b1, l2, l3, b2, c1, dd, v0, v1, v2, v3, v5, x _ _ hk, hv⟩
  · cases e
noncomputable def Hk (C:Addr) (o:Obj):Bool:=match o with
 | ⟨c,_,.cls cd,sl⟩=>c == .type "type" && cd.mro.head? == some (.ref C) && qS cd.mro && !cd.hasDel && sl.size == 6 && sl[4]? == some (some (.builtin "ValueError.__new__")) && cd.hasDict
 | _=>false
theorem YL {K:PySem.W.Frag} {o:Obj} (l:K.lookup C=some o) (h:Hk C o=true):fF K C=true:=by
 unfold Hk at h
 split at h
 ·unfold fF
  rw[l]
  exact(Bool.and_eq_true_iff.mp h).1
 ·cases h
theorem V4 {K:PySem.W.Frag} {o:Obj} (l:K.lookup C=some o) (h:Hk C o=true):(PySem.W.clsIn K C).any (fun cd=>qS cd.mro && cd.hasDict)=true:=by
 unfold Hk at h
 split at h
 ·rename_i c d cd sl
  unfold PySem.W.clsIn
  rw[l]
  simp only[Bool.and_eq_true] at h;simp [h.1.1.1.1.2,h.2]
 ·cases h
section
open PySem.W
variable {w : World} {A : Around} {E : Value → Shared → Prop} {h : Heap} {g : Array GenState} {dr : Drawn} {t : Nat} {os : OsState} {prog : Program} {M : Model} {C : Addr}
/-- what a class of exceptions of ours, made by ValueError, answers to the asking for it -/
structure Xcl (M : Model) (h : Heap) (C : Addr) : Prop where
  obj : ∃ n1 n2 N l1 bm b1 l2 l3 b2 c1 d1 v0 v1 v2 v3 v5, h.get? C = some (excClassObj n1 n2 C N l1 bm b1 l2 l3 b2 c1 d1 v0 v1 v2 v3 v5 "ValueError.__new__")
  made : Looks M h (Bind.madeBy (.ref C)) (some "ValueError.__new__")
  base : Looks M h (Bind.staticBase (.ref C)) (.ref C)
  here : Looks M h (Bind.madeHere "BaseException.__new__" (.ref C)) ()
  val : Looks M h (isSubtype (.ref C) (.type "ValueError")) true
  exc : Looks M h (isSubtype (.ref C) (.type "BaseException")) true
  att : Looks M h (isSubtype (.ref C) (.type "AttributeError")) false
  nam : Looks M h (isSubtype (.ref C) (.type "NameError")) false
  self : Looks M h (isSubtype (.ref C) (.ref C)) true
theorem xcl_looks {K : Frag} (X : K.In h) (e : fF K C = true) : Xcl M h C := by
  obtain ⟨n1, n2, N, l1, bm, b1, l2, l3, b2, c1, d1, v0, v1, v2, v3, v5, hC, hv⟩ := KC X e
  obtain ⟨a1, a2, a3, a4⟩ := su hv
  have on : ∀ b r, (Value.ref C :: bm).contains b = r → Looks M h (isSubtype (.ref C) b) r := fun b r er A Q E s k q => wpAny_isSubtype_exc (k _ _ hC) (er ▸ q)
  exact ⟨⟨n1, n2, N, l1, bm, b1, l2, l3, b2, c1, d1, v0, v1, v2, v3, v5, hC⟩, fun A Q E s k q => wpAny_madeBy_exc (k _ _ hC) q, fun A Q E s k q => wpAny_staticBase_exc (k _ _ hC) q, fun A Q E s k q => wpAny_madeHere_exc PySem.F.excBase_ValueError.canon (k _ _ hC) q, on _ _ a1, on _ _ a2, on _ _ a3, on _ _ a4, on _ _ (by simp)⟩
theorem Xcl.keeps {h' : Heap} (x : Xcl M h C) (k : ∀ b o, h.get? b = some o → h'.get? b = some o) : Xcl M h' C := by
  obtain ⟨n1, n2, N, l1, bm, b1, l2, l3, b2, c1, d1, v0, v1, v2, v3, v5, hC⟩ := x.obj
  exact ⟨⟨n1, n2, N, l1, bm, b1, l2, l3, b2, c1, d1, v0, v1, v2, v3, v5, k _ _ hC⟩, x.made.keeps k, x.base.keeps k, x.here.keeps k, x.val.keeps k, x.exc.keeps k, x.att.keeps k, x.nam.keeps k, x.self.keeps k⟩
theorem Xcl.new_may (x : Xcl M h C) {rest : List Value} {Q : Unit → Shared → Prop} (q : Q () ⟨h, g, dr, t, os⟩) : wpAny M A (checkBuiltinCall "ValueError.__new__" ⟨.ref C :: rest, []⟩) Q E ⟨h, g, dr, t, os⟩ := by
  have F := PySem.F.excBase_ValueError
  have star := F.noStar
  obtain ⟨x1, x2, x3⟩ : _ ∧ _ ∧ _ := ⟨x.made, x.base, x.val⟩
  obtain ⟨_, _, _, _, _, _, _, _, _, _, _, _, _, _, _, _, hC⟩ := x.obj
  simp only [checkBuiltinCall, F.newKind, F.newSplit, F.newRow]
  repeat first | with_reducible refine wpAny_loadPart_at hC ?_ | simp only [bne_self_eq_false, Bool.false_eq_true, if_false, Bool.not_true] | with_reducible refine Looks.here (by assumption) ?_ | wp_step
  exact q
/-- the two things that are made: its args, and it -/
abbrev argsObj (rest : List Value) : Obj := { cls := .type "tuple", data := .seq rest.toArray }
abbrev excObj (C T : Addr) : Obj := { cls := .ref C, data := .fields #[.ref T, .none, .none, .none, .bool false, .none] }
theorem Xcl.new {R : Result → Shared → Prop} (x : Xcl (model prog w) h C) {rest : List Value} (nE : rest.length ≤ sizeLine)
    (q : R (.ok (.ret (.ref (h.objs.size + 1)))) ⟨(h.push (argsObj rest)).push (excObj C h.objs.size), g, dr, t, os⟩) : codeAny (model prog w) A (.builtin "ValueError.__new__" ⟨.ref C :: rest, []⟩) R ⟨h, g, dr, t, os⟩ := by
  have F := PySem.F.excBase_ValueError
  have ends := F.ends
  obtain ⟨_, _, _, _, _, _, _, _, _, _, _, _, _, _, _, _, hC⟩ := x.obj
  obtain ⟨x1, x2, x3, x4⟩ : _ ∧ _ ∧ _ ∧ _ := ⟨x.here, x.att, x.nam, x.val⟩
  refine codeAny_builtinAt F.entry ?_
  unfold Builtin.«BaseException.__new__»
  refine PySem.wpAt_bind (?_ : PySem.wpAt _ _ _ (stack >>= _) _ _ _)
  refine PySem.wpAt_bind (PySem.wpAt_stack fun p below => PySem.wpAt_of_wpAny ?_)
  wp_walk
  refine PySem.wpAt_of_wpAny (F.owner.symm ▸ ?_)
  repeat first | with_reducible refine wpAny_loadPart_at hC ?_ | with_reducible refine Looks.here (by assumption) ?_ | wp_step
  rw [← Heap.size_push] at q
  exact q
/-- C(rest): a new exception, and its own __init__ -/
theorem Xcl.make (x : Xcl (model prog w) h C) {rest : List Value} {init : Value} {Q : Value → Shared → Prop} (nE : rest.length ≤ sizeLine) (hi : Looks (model prog w) h (typeLookup (.ref C) "__init__") (some init)) (hb : ∀ v, Looks (model prog w) h (bindSpecial init v) (init, [v]))
    (go : wpAny (model prog w) (A.under (.builtin "type.__call__" ⟨.ref C :: rest, []⟩)) (call init (.ref (h.objs.size + 1) :: rest)) (fun r s' => r = .none ∧ Q (.ref (h.objs.size + 1)) s') E ⟨(h.push (argsObj rest)).push (excObj C h.objs.size), g, dr, t, os⟩) :
    wpAny (model prog w) A (call (.ref C) rest) Q E ⟨h, g, dr, t, os⟩ := by
  have F := PySem.F.excBase_ValueError
  obtain ⟨_, _, _, _, _, _, _, _, _, _, _, _, _, _, _, _, hC⟩ := x.obj
  have ty : Shared.TypeIs ⟨h, g, dr, t, os⟩ (.ref C) "type" := ⟨_, hC, rfl⟩
  obtain ⟨c1, c2⟩ : _ ∧ _ := ⟨tc_lookup, tc_bind (.ref C)⟩
  refine wpAny_call (codeAny_of_tree (?_ : wpAny _ _ (callAny (.ref C) _) _ _ _))
  repeat any_goals first | assumption | with_reducible refine wpAny_loadPart_at hC ?_ | wp_step
  refine ⟨rfl, codeAny_call_builtin_at (Code.quiet_builtin _ (by decide +kernel)) entry_typeCall (wpAny_check_type_call_sub hC ?_)⟩
  have made := x.made
  repeat first | with_reducible refine wpAny_loadPart_at hC ?_ | with_reducible refine Looks.here made ?_ | wp_step
  refine codeAny_call_builtin_code (Code.quiet_builtin _ F.quiet) (x.new_may (x.new nE (?_ : wpAny _ _ _ _ _ ⟨(h.push (argsObj rest)).push (excObj C h.objs.size), g, dr, t, os⟩)))
  have up : ∀ b o, h.get? b = some o → ((h.push (argsObj rest)).push (excObj C h.objs.size)).get? b = some o := fun b o e => Heap.get?_push_of_some _ (Heap.get?_push_of_some _ e)
  have new : ((h.push (argsObj rest)).push (excObj C h.objs.size)).get? (h.objs.size + 1) = some (excObj C h.objs.size) := Heap.get?_push_at (Heap.size_push ..).symm rfl
  obtain ⟨y1, y2, y3⟩ : _ ∧ _ ∧ _ := ⟨x.self.keeps up, hi.keeps up, (hb (.ref (h.objs.size + 1))).keeps up⟩
  generalize (h.push (argsObj rest)).push (excObj C h.objs.size) = h2 at go new y1 y2 y3
  unfold isInstance
  repeat first | with_reducible refine wpAny_loadPart_at new ?_ | with_reducible refine Looks.here y1 ?_ | wp_step
  refine (?_ : wpAny _ _ (typeLookup (.ref C) _) _ _ _)
  refine y2.here ?_
  refine wpAny_holding (wpAny_bind ?_)
  refine y3.here ?_
  refine wpAny_bind (xl go fun r s' z => ?_)
  obtain ⟨rfl, z⟩ := z
  wp_walk
  exact z
theorem born (h : Heap) (C : Addr) (rest : List Value) : Heap.MadeExcOf h ((h.push (argsObj rest)).push (excObj C h.objs.size)) (h.objs.size + 1) (.ref C) rest where
  keeps := fun b o e => Heap.get?_push_of_some _ (Heap.get?_push_of_some _ e)
  new := Heap.get?_none_of_le (Nat.le_succ _)
  there := ⟨h.objs.size, Heap.get?_push_at (Heap.size_push ..).symm rfl, Heap.get?_none_of_le (Nat.le_refl _), Heap.get?_push_of_some _ (Heap.get?_push_at rfl rfl)⟩
/-- the __init__ that every ValueError has, of no args: its args are told anew -/
theorem bare_init {e T : Addr} {Q : Value → Shared → Prop} (x : Xcl (model prog w) h C) (ge : h.get? e = some (excObj C T)) (q : Q .none ⟨(h.push (argsObj [])).update e (Obj.mapFields (·.setIfInBounds 0 (.ref h.objs.size))), g, dr, t, os⟩) :
    wpAny (model prog w) A (call (.builtin "ValueError.__init__") [.ref e]) Q E ⟨h, g, dr, t, os⟩ := by
  have F := PySem.F.excBase_ValueError
  have is : Looks (model prog w) h (isInstance (.ref e) (.type "ValueError")) true := ((Looks.ld ge).andThen .now).andThen x.val
  have star := F.noStar
  have may : ∀ {Q1 : Unit → Shared → Prop} {E1 : Value → Shared → Prop} {A1 : Around}, Q1 () ⟨h, g, dr, t, os⟩ → wpAny (model prog w) A1 (checkBuiltinCall "ValueError.__init__" ⟨[.ref e], []⟩) Q1 E1 ⟨h, g, dr, t, os⟩ := fun q1 => by
    obtain ⟨_, _, _, _, _, _, _, _, _, _, _, _, _, _, _, _, hC⟩ := x.obj
    have val := x.val
    simp only [checkBuiltinCall, F.initKind, F.initSplit, F.initRow]
    repeat first | with_reducible refine Looks.here is ?_ | with_reducible refine wpAny_loadPart_at ge ?_ | with_reducible refine wpAny_loadPart_at hC ?_ | wp_step
    exact q1
  refine wpAny_call (codeAny_call_builtin F.init.plain F.initEntry (may ?_))
  repeat first | with_reducible refine wpAny_loadPart_at ge ?_ | wp_step

  exact q
end
structure HK (K:PySem.W.Frag) (C f:Addr):Prop where
 xc:fF K C=true
 init:PySem.W.findIn K (.ref C) "__init__" = some (some (.ref f))
 fn:PySem.W.isFn K (.ref f)=true
 kp:PySem.W.keepIn K (.ref C)=true
section
variable {CX:sQ} {k:Nat} {fI:Addr} {fd:FuncData} {ps:List Str} {sp:Sp} {dvs vs:List V} {ds us:List Value} {E:XK} {Q:VK} {x:Str} {p:Pos} {e:Expr} {es:List Expr} {t:TA}
theorem Vn {h h':Heap} {e:Addr} {args:List Value} (m:Heap.MadeExcOf h h' e (.ref C) args):rX h' e C none .none:=by
 obtain⟨t,he,_⟩:=m.there
 exact⟨_,_,he,rfl,rfl,rfl⟩
theorem Jd (M : HK X.K C fI) (F : qi X.prog X.w X.K X.mg X.base CX k fI fd ps sp) (hr : vJ (k + 1) X.A) (hb : Binds X.K fd ps ds) (hd : Vals dvs ds) (hx : Passes CX X E) (I : Inv X pins σ H s) (r : Vals vs us) (hz : vs.length ≤ sizeLine)
    (h : ∀ a, H a = none → sp (.ref a :: (vs ++ dvs)) (upd H a (xN a C none)) (fun v H2 => v = .non ∧ Q (.ref a) H2) E) : wpAny (model X.prog X.w) X.A (call (.ref C) us) (EP X pins σ Q) X.xe s := by
  have Xf := I.pY
  rcases s with ⟨hp, g, d, tk, os⟩
  refine (xcl_looks Xf M.xc).make (by rw [← r.length]; exact hz) (PySem.W.looks_findIn Xf M.init) (fun v => PySem.W.bind_fn Xf v (beq_iff_eq.mp M.fn)) ?_
  have hm := born hp C us
  have hn : hp.objs.size ≤ hp.objs.size + 1 := Nat.le_succ _
  generalize (hp.push (argsObj us)).push (excObj C hp.objs.size) = h', hp.objs.size + 1 = e at hm hn
  have hq := h e (I.jc.fresh hn)
  have I2 : Inv X pins σ (upd H e (xN e C none)) ⟨h', g, d, tk, os⟩ := I.laid (a := e) (o := xN e C none) (h' := h') (t' := tk) hm.keeps hn (WQ (Vn hm))
  have r2 : Vals (V.ref e :: (vs ++ dvs)) (Value.ref e :: (us ++ ds)) := .cons rfl (r.append hd)
  have hl : (Value.ref e :: us ++ ds).length = ps.length := by
    have e' := r2.length
    rw [F.len _ _ _ _ hq] at e'
    exact e'.symm
  refine wpAny_call (codeAny_mono (F.run _ X.stack _ _ ⟨Value.ref e :: us, []⟩ (Value.ref e :: (us ++ ds)) _ _ E (hr.make C us []) (I2.WC.make C us []) (hb _ (Value.ref e :: us) I2.pY hl) r2 hq) fun r s' hq' => ?_)
  cases r with
  | error e' => exact hx pins σ _ _ e' s' I2 hq'
  | ok fl =>
    cases fl with
    | ret u =>
      obtain ⟨v, H', I3, rv, ev, q3⟩ := I2.after hq'
      subst ev
      exact ⟨rv, ⟨V.ref e, H', I3, rfl, q3⟩⟩
    | next => exact False.elim hq'
    | brk => exact False.elim hq'
    | cont => exact False.elim hq'
noncomputable def YB (C:Addr) (sp:Sp) (dvs:List V) (E:XK) (t:TA):TE:=fun σ H Q=>t σ H fun vs H1=>vs.length≤sizeLine∧∀a,H1 a=none→sp (.ref a :: (vs ++ dvs)) (upd H1 a (xN a C none)) (fun v H2=>v=.non∧Q (.ref a) H2) E
theorem bj {pos:Pos} (M:HK X.K C fI) (F:qi X.prog X.w X.K X.mg X.base CX k fI fd ps sp) (hr:vJ (k + 1) X.A) (hg:Gl X x) (hm:X.mg x=some (.ref C)) (hb:Binds X.K fd ps ds) (hd:Vals dvs ds) (hx:Passes CX X E)
  (ha:PA X (e :: es) t) (hdb:(x == ("__debug__" : Str))=false:=by decide) (he:starEach (e :: es) X.env=(false,eval e X.env) :: starEach es X.env:=by rfl) (hpl:(backTo pos (starEach es X.env)).any (·.1)=false:=by rfl) :
  PE X (.Call (.Name x p) (e :: es) [] pos) (YB C sp dvs E t):=by
 intro pins s σ H Q I h
 refine wpAny_Call_Name_kw (fO I hg hm ?_ hdb)
 refine PySem.W.callWith_K (h₀:=X.base) I.ok.mod.Xf M.kp (xl (ha pos pins s σ H _ I h) fun us s1 ⟨vs,H1,I1,r,hz,q⟩=>⟨I1.pY,?_⟩) he hpl
 exact Jd M F hr hb hd hx I1 r hz q
structure Pc (K:PySem.W.Frag) (C:Addr):Prop where
 xc:fF K C=true
 init:PySem.W.findIn K (.ref C) "__init__" = some (some (.builtin "ValueError.__init__"))
 kp:PySem.W.keepIn K (.ref C)=true
noncomputable def Hs (C:Addr):TE:=fun _ H Q=>∀a,H a=none→Q (.ref a) (upd H a (xN a C none))
end
end
end L2
namespace L2
open PyProof.Rows PySem PySem.Spec
section
variable {X:Cx} {pins:List (Addr × Obj)} {σ:St} {H:Hp} {s:Shared} {a C:Addr} {d:Option Addr} {e:Expr} {te:TE} {pos:Pos} {E:XK}
theorem VD {K : PySem.W.Frag} {M : Model} {A : Around} {EE : Value → Shared → Prop} {env : Env} {x : Sem Value} {Q : Flow → Shared → Prop} (hh : A.handled = none)
    (h : wpAny M A x (fun v s1 => ∃ e C d, v = .ref e ∧ K.In s1.heap ∧ fF K C = true ∧ rX s1.heap e C d .none ∧ EE (.ref e) s1) EE s) : wpAny M A (raiseStmt env (some x) none) Q EE s := by
  unfold raiseStmt
  refine wpAny_bind (wpAny_mono h (fun v s1 h1 => ?_) fun _ _ z => z)
  obtain ⟨e, C, d, rfl, Xf, hk, ⟨vs, sl, he, hsz, h1, h2⟩, hE⟩ := h1
  have x := (xcl_looks (M := M) Xf hk).exc
  obtain ⟨_, _, _, _, _, _, _, _, _, _, _, _, _, _, _, _, hC⟩ := (xcl_looks (M := M) Xf hk).obj
  rcases s1 with ⟨hp, g, dr, tk, os⟩
  (repeat first | with_reducible refine wpAny_loadPart_at he ?_ | with_reducible refine wpAny_loadPart_at hC ?_ | with_reducible refine PySem.W.Looks.here x ?_ | wp_step); rw [h1]
  refine wpAny_pure ?_
  rw [if_neg (by decide)]
  exact wpAny_pure (wpAny_raiseNew_none hh hE)
noncomputable def Raises (X:Cx) (E:XK):Prop:=∀(pins:List (Addr × Obj)) (σ:St) (H:Hp) (s:Shared) (a C:Addr) (d:Option Addr),Inv X pins σ H s→H a=some (xO a C d)→rX s.heap a C d .none→E (.ref C) (some a) H→X.xe (.ref a) s
theorem fA {P:Program} {w:World} {K:PySem.W.Frag} {mg:Str→Option Value} {base:Heap} {N:List Str} {qual:Str} {scope:Scope} {f:Addr} {cd:Value} {A:Around} {outer:List Env} {s:Shared} {H:Hp} {E:XK}:Raises (nN (ar P w) P w K mg base N qual scope f cd A outer s H E) E:=
 fun _ _ _ _ _ _ _ I ha hx hE=>I.W2 rfl rfl rfl ha hx hE
noncomputable def YM (K:PySem.W.Frag) (E:XK) (te:TE):TS:=fun _ σ H=>te σ H fun v H1=>∃a C d,v=.ref a∧fF K C=true∧H1 a=some (xN a C d)∧E (.ref C) (some a) (upd H1 a (xO a C d))
theorem bh (hX:Raises X E) (hc:X.calm=true) (he:PE X e te):PS X (.Raise (some e) none pos) (YM X.K E te):=by
 intro pins s σ H D I h
 rw[arm_exec_Raise]
 refine wpAny_bind (wpAny_standAt (VD (K:=X.K) (I.ok.hd hc) ?_))
 refine wpAny_bind (xl (he pins s σ H _ I h) fun u s1 ⟨v,H1,I1,rv,a,C,d,ev,hk,ha,hE⟩=>wpAny_bind (wpAny_standAt (wpAny_pure ?_)))
 subst ev
 obtain rfl:u=Value.ref a:=rv
 have hx:=KD I1.jc ha
 obtain⟨vs,sl,hg,r⟩:=id hx
 have I2:Inv X pins σ (upd H1 a (xO a C d)) s1:=I1.write (x:=a) (e:=a) (h':=s1.heap) (t':=s1.toks) (by rw[ha];exact True.intro) (.inl rfl) (fun b q _ z=>z) ⟨_,hg⟩ (WJ hx)
 exact⟨a,C,d,rfl,I1.pY,hk,hx,hX pins σ _ s1 a C d I2 qx hx hE⟩
end
end L2
namespace L2
open PyProof.Rows PySem PySem.Spec
section
variable {X:Cx} {pins:List (Addr × Obj)} {σ:St} {H:Hp} {s:Shared} {a C:Addr} {d:Option Addr} {E Eh:XK}
noncomputable def Y1 (X:Cx) (pins:List (Addr × Obj)) (σ:St) (Eh:XK) (ex:Value) (s':Shared):Prop:=∃a C d T H',ex=.ref a∧Inv X pins σ H' s'∧Hv a C d X.s₀.heap.objs.size H' s'.heap T∧(∀p∈X.pn ++ pins,p.1≠T)∧Eh (.ref C) (some a) H'
noncomputable def Pb (X:Cx) (Eh:XK) (e:Expr) (te:TE):Prop:=∀(pins:List (Addr × Obj)) (s:Shared) (σ:St) (H:Hp) (Q:VK),Inv X pins σ H s→te σ H Q→wpAny (model X.prog X.w) X.A (eval e X.env) (EP X pins σ Q) (Y1 X pins σ Eh) s
section
variable {k:Nat} {f:Addr} {fd:FuncData} {ps:List Str} {sp:Sp} {dvs:List V} {ds:List Value} {x:Str} {p pos:Pos} {e:Expr} {es:List Expr} {t:TA}
end
noncomputable def Cx.held (X:Cx) (a:Addr):Cx:={ X with A:=X.A.mark (some (.ref a)),calm:=false }
noncomputable def B7 (K:PySem.W.Frag) (Eh:XK) (P:Addr) (i:Nat) (te:TE) (th:Addr→TS):TS:=fun D σ H=>(te σ H fun _ H1=>D.nx σ H1)∧∀C a H',Eh (.ref C) (some a) H'→PySem.W.exmOne K (.ref C) (.ref P)=some true∧
 th a { nx:=fun σ H=>D.nx (σ.set i none) H,rt:=D.rt,bk:=fun σ H=>D.bk (σ.set i none) H,ct:=fun σ H=>D.ct (σ.set i none) H } (σ.set i (some (.ref a))) H'
end
end L2
namespace L2
open PyProof.Rows PySem PySem.Spec
noncomputable def HV (H:Hp) (a C:Addr) (fs:List (Str × V)):Prop:=(fs=[]∧H a=some (xO a C none))∨∃dx,H a=some (xO a C (some dx))∧H dx=some (xD dx fs)
section
variable {prog:Program} {w:World} {A:Around} {E:Value→Shared→Prop} {s:Shared} {K:PySem.W.Frag} {x C:Addr} {ox:Obj} {od:Option Obj} {name:Str} {tk:Tok} {v:Value} {R:Result→Shared→Prop}
end
structure Pu (K:PySem.W.Frag) (C:Addr):Prop where
 ga:PySem.W.findIn K (.ref C) "__getattribute__" = some (some (.builtin "BaseException.__getattribute__"))
 gn:PySem.W.findIn K (.ref C) "__getattr__" = some none
 bx:PySem.W.mroIn K C (.type "BaseException")=some true
 hd:PySem.W.hasDictIn K C=true
 ha:PySem.W.findIn K (.ref C) "__class__" = some (some (.builtin "object.__class__"))
 hn:PySem.W.specialIn K (.builtin "object.__class__") "__get__" = some (some (.builtin "getset_descriptor.__get__"))
 uO:PySem.W.takesIn K (.builtin "object.__class__")=some true
 hm:PySem.W.mroIn K C (.type "object")=some true
section
variable {X:Cx} {K:PySem.W.Frag}
noncomputable def B8 (K:PySem.W.Frag) (ta:TE) (f:Str):TE:=fun σ H Q=>ta σ H fun x H1=>∃a C fs v,x=.ref a∧HV H1 a C fs∧Pu K C∧qW K C f∧fs.lookup f=some v∧Q v H1
end
end L2
namespace L2
open PyProof.Rows PySem PySem.Spec
structure Y8 (k:Nat) (A:Around):Prop where
 dp:A.depth + 3 * k + 5 < recursionLimit
 un:A.units + 16 * k + 200 < cLine
structure BG (P:Program) (w:World) (K:PySem.W.Frag) (mg:Str→Option Value) (base:Heap) (CX:sQ) (k:Nat) (f:Addr) (fd:FuncData) (ps:List Str) (sp:Sp):Prop where
 len:∀vs H Q E,sp vs H Q E→vs.length=ps.length
 run:∀(A:Around) (outer:List Env) (s:Shared) (H:Hp) (args:Args) (us:List Value) (vs:List V) (Q:VK) (E:XK),Y8 k A→ir P w K mg base A outer s H→BindsTo s fd args (ps.zip us)→Vals vs us→sp vs H Q E→codeAny (model P w) A (.call (.ref f) args) (CR CX outer P w H s Q E) s
section
variable {P:Program} {w:World} {K:PySem.W.Frag} {mg:Str→Option Value} {base:Heap} {CX:sQ}
noncomputable def Cx.any (X:Cx):Cx:={ X with calm:=false,xe:=fun _ _=>False }
section
variable {X:Cx} {pins:List (Addr × Obj)} {σ:St} {H:Hp} {s:Shared} {k:Nat} {f:Addr} {fd:FuncData} {ps:List Str} {sp:Sp} {dvs:List V} {ds:List Value} {x:Str} {p pos:Pos} {e:Expr} {es:List Expr} {t:TA}
end
end
end L2
namespace L2
open PyProof.Rows PySem PySem.Spec
section
variable {prog:Program} {w:World} {A:Around} {E:Value→Shared→Prop} {s:Shared} {a e C:Addr} {d:Option Addr} {tb:Value} {oe:Obj} {vs:Array Value}
end
end L2
namespace L2
open PyProof.Rows PySem PySem.Spec
structure Y9 (aa:Addr) (P:Program) (w:World) (K:PySem.W.Frag) (tg:Expr) (J:It) (fp:List Addr) (it:Addr) (tn:Nat→Heap→Prop):Prop where
 mem:it∈fp
 obj:∀i h,tn i h→∀b∈fp,∃o,h.get? b=some o∧∀v,o.data≠.cell v
 keep:∀i h h',tn i h→(∀b∈fp,∀o,h.get? b=some o→h'.get? b=some o)→tn i h'
 item:∀(X:Cx),X.prog=P→X.w=w→X.K=K→X.A.handled=some (.ref aa)→∀(i:Nat) (pins:List (Addr × Obj)) (s:Shared) (σ:St) (H:Hp) (E:Value→Shared→Prop),Inv X pins σ H s→(∀b∈fp,gD X pins H b)→tn i s.heap→J.go i H→
  wpAny (model P w) X.A (pyNext (.ref it)) (fun r s1=>∃u,r=some u∧wpAny (model P w) X.A (letOwnedTupleGo tg (.ref it) u) (fun _ s2=>∃x H',Inv X pins σ H' s2∧RelV x u∧J.K1 i H x H'∧tn (i + 1) s2.heap∧∀b∈fp,H' b=none) E s1) E s
 done:∀(X:Cx),X.prog=P→X.w=w→X.K=K→X.A.handled=some (.ref aa)→∀(i:Nat) (pins:List (Addr × Obj)) (s:Shared) (σ:St) (H:Hp) (E:Value→Shared→Prop),Inv X pins σ H s→(∀b∈fp,gD X pins H b)→tn i s.heap→J.stop i H→wpAny (model P w) X.A (pyNext (.ref it)) (fun r s1=>r=none∧Inv X pins σ H s1) E s
 self:∀(A:Around) (i:Nat) (s:Shared) (Q:Value→Shared→Prop) (E:Value→Shared→Prop),tn i s.heap→Q (.ref it) s→wpAny (model P w) A (pyIter (.ref it)) Q E s
noncomputable def Ha (aa:Addr) (lo:Int) (n:Nat):It:=⟨fun i _=>i < n,fun i H x H'=>H'=H∧x=.int (lo + i),fun i H=>n≤i∧∃C d,H aa=some (xO aa C d)⟩
section
variable {X:Cx}
noncomputable def Pf (X:Cx) (aa:Addr) (tg iter:Expr) (wi:TI):Prop:=∀(pins:List (Addr × Obj)) (s:Shared) (σ:St) (H:Hp) (R:It→Hp→Prop),Inv X pins σ H s→wi σ H R→
 wpAny (model X.prog X.w) X.A (eval iter X.env) (fun v s1=>wpAny (model X.prog X.w) X.A (pyIter v) (fun itv s2=>∃(it:Addr) (fp:List Addr) (tn:Nat→Heap→Prop) (J:It) (H':Hp),itv=.ref it∧Inv X pins σ H' s2∧Y9 aa X.prog X.w X.K tg J fp it tn∧tn 0 s2.heap∧(∀b∈fp,gD X pins H' b)∧R J H') X.xe s1) X.xe s
noncomputable def HP (aa:Addr) (ta:TA):TI:=fun σ H R=>ta σ H fun vs H1=>∃j:Int,vs=[.int j]∧-(2 ^ 62)≤j∧j < 2 ^ 62∧R (Ha aa 0 j.toNat) H1
end
end L2
namespace L2
open PySem PySem.Spec PyProof.Rows
section
variable {κ:Type} [DecidableEq κ]
noncomputable def pK (kvs:List (κ × V)) (k:κ):Option V:=(kvs.find? fun kv=>decide (kv.1=k)).map (·.2)
noncomputable def putK (kvs:List (κ × V)) (k:κ) (v:V):List (κ × V):=
 if (kvs.any fun kv=>decide (kv.1=k))=true then kvs.map (fun kv=>if kv.1=k then (kv.1,v) else kv) else kvs ++ [(k,v)]
noncomputable def J5 (kvs:List (κ × V)) (k:κ):List (κ × V):=kvs.filter fun kv=>decide (kv.1≠k)
theorem sd {p:κ × V} {r:List (κ × V)} {k:κ} (e:p.1=k):pK (p :: r) k=some p.2:=by simp [pK,List.find?_cons,e]
theorem sm {p:κ × V} {r:List (κ × V)} {k:κ} (e:¬p.1=k):pK (p :: r) k=pK r k:=by simp [pK,List.find?_cons,e]
theorem cB (k:κ):∀kvs:List (κ × V),(kvs.any fun kv=>decide (kv.1=k))=(pK kvs k).isSome
 | []=>rfl
 | p :: r=>by
  rw[List.any_cons]
  by_cases e:p.1=k
  ·simp only[sd e,decide_eq_true e,Bool.true_or,Option.isSome_some]
  ·rw[sm e,decide_eq_false e,Bool.false_or];exact cB k r
theorem uu (kvs:List (κ × V)) (k:κ) (v:V):(putK kvs k v).length≤kvs.length + 1:=by
 unfold putK
 split
 ·rw[List.length_map];omega
 ·rw[List.length_append,List.length_cons,List.length_nil];omega
theorem XA {kvs:List (κ × V)} {k:κ} (v:V) (h:pK kvs k=none):putK kvs k v=kvs ++ [(k,v)]:=by
 unfold putK
 rw[cB,h]
 exact if_neg (by decide)
theorem gI.cT {o:Option V} {u:Option Value} (r:gI o u):o.isSome=u.isSome:=by
 cases o with
 | none=>cases u with
  | none=>rfl
  | some _=>exact(show False from r).elim
 | some _=>cases u with
  | none=>exact(show False from r).elim
  | some _=>rfl
theorem KV.val {kvs:List (κ × V)} {vs:List (κ × Value)} (r:KV kvs vs) (k:κ):gI (pK kvs k) (valueAt vs k):=by
 unfold KV at r
 induction r with
 | nil=>exact True.intro
 | @cons p q ps qs h t ih=>
  obtain⟨h1,h2⟩:=h
  by_cases e:p.1=k
  ·have e':q.1=k:=h1.symm.trans e
   have b:valueAt (q :: qs) k=some q.2:=by simp [valueAt,List.find?_cons,e']
   rw[sd e,b];exact h2
  ·have e':¬q.1=k:=fun z=>e (h1.trans z)
   have b:valueAt (q :: qs) k=valueAt qs k:=by simp [valueAt,List.find?_cons,e']
   rw[sm e,b];exact ih
theorem KV.any {kvs:List (κ × V)} {vs:List (κ × Value)} (r:KV kvs vs) (k:κ):(kvs.any fun kv=>decide (kv.1=k))=vs.any fun kv=>decide (kv.1=k):=by
 unfold KV at r
 induction r with
 | nil=>rfl
 | cons h t ih=>rw[List.any_cons,List.any_cons,ih,h.1]
theorem KV.Yo {kvs:List (κ × V)} {vs:List (κ × Value)} (r:KV kvs vs) (k:κ) {y:V} {u:Value} (ry:RelV y u) :
  KV (kvs.map fun kv=>if kv.1=k then (kv.1,y) else kv) (vs.map fun kv=>if kv.1=k then (kv.1,u) else kv):=by
 unfold KV at r ⊢
 induction r with
 | nil=>exact .nil
 | @cons p q ps qs h t ih=>
  rw[List.map_cons,List.map_cons]
  refine .cons ?_ ih
  obtain⟨h1,h2⟩:=h
  by_cases e:p.1=k
  ·rw[if_pos e,if_pos (h1.symm.trans e)];exact⟨h1,ry⟩
  ·rw[if_neg e,if_neg (fun z=>e (h1.trans z))];exact⟨h1,h2⟩
theorem KV.put {kvs:List (κ × V)} {vs:List (κ × Value)} (r:KV kvs vs) (k:κ) {y:V} {u:Value} (ry:RelV y u):KV (putK kvs k y) (stored vs k u):=by
 unfold putK stored
 rw[r.any k]
 by_cases e:(vs.any fun kv=>decide (kv.1=k))=true
 ·rw[if_pos e,if_pos e];exact r.Yo k ry
 ·rw[if_neg e,if_neg e];exact Paired.snoc r ⟨rfl,ry⟩
theorem KV.length {kvs:List (κ × V)} {vs:List (κ × Value)} (r:KV kvs vs):kvs.length=vs.length:=Paired.length r
end
theorem Xp {P:Program} {w:World} {k:Key} {u:Value} (r:RelV (kV k) u):(vk P w).is k u=true:=by
 cases k with
 | inl i=>obtain⟨t,e⟩:=(show ∃t,u=Value.int i t from r);subst e;exact i3 P w i t
 | inr x=>obtain⟨t,e⟩:=(show ∃t,u=Value.str x t from r);subst e;exact i4 P w x t
theorem tP {P:Program} {w:World}:∀{ks:List Key} {us:List Value},Vals (ks.map kV) us→ItemsAre (vk P w) ks us
 | [],_,r=>by rw[List.map_nil] at r;cases r;exact .nil
 | k :: ks,_,r=>by
  rw[List.map_cons] at r
  cases r with
  | cons h t=>exact .cons (Xp h) (tP t)
noncomputable abbrev KT (H:Hp):List (List Key × V)→List (List Key × Addr × Value)→Prop:=Paired fun p q=>p.1=q.1∧H q.2.1=some (.tup (p.1.map kV))∧RelV p.2 q.2.2
theorem KT.val {H:Hp} {kvs:List (List Key × V)} {xs:List (List Key × Addr × Value)} (r:KT H kvs xs) (k:List Key):gI (pK kvs k) ((atKey xs k).map (·.2)):=by
 induction r with
 | nil=>exact True.intro
 | @cons p q ps qs h t ih=>
  obtain⟨h1,_,h2⟩:=h
  by_cases e:p.1=k
  ·have e':q.1=k:=h1.symm.trans e
   have b:atKey (q :: qs) k=some q.2:=by simp [atKey,List.find?_cons,e']
   rw[sd e,b];exact h2
  ·have e':¬q.1=k:=fun z=>e (h1.trans z)
   have b:atKey (q :: qs) k=atKey qs k:=by simp [atKey,List.find?_cons,e']
   rw[sm e,b];exact ih
theorem KT.Yo {H:Hp} {kvs:List (List Key × V)} {xs:List (List Key × Addr × Value)} (r:KT H kvs xs) (k:List Key) {y:V} {u:Value} (ry:RelV y u) :
  KT H (kvs.map fun kv=>if kv.1=k then (kv.1,y) else kv) (xs.map (putAt k u)):=by
 induction r with
 | nil=>exact .nil
 | @cons p q ps qs h t ih=>
  rw[List.map_cons,List.map_cons]
  refine .cons ?_ ih
  obtain⟨h1,h2,h3⟩:=h
  unfold putAt
  by_cases e:p.1=k
  ·rw[if_pos e,if_pos (h1.symm.trans e)];exact⟨h1,h2,ry⟩
  ·rw[if_neg e,if_neg (fun z=>e (h1.trans z))];exact⟨h1,h2,h3⟩
theorem KT.put {H:Hp} {kvs:List (List Key × V)} {xs:List (List Key × Addr × Value)} (r:KT H kvs xs) (k:List Key) {b:Addr} {y:V} {u:Value} (hb:H b=some (.tup (k.map kV))) (ry:RelV y u) :
  KT H (putK kvs k y) (storedH xs k b u):=by
 have e:(kvs.any fun kv=>decide (kv.1=k))=(atKey xs k).isSome:=by
  rw[cB,(r.val k).cT,Option.isSome_map]
 unfold putK storedH
 rw[e]
 by_cases q:(atKey xs k).isSome=true
 ·rw[if_pos q,if_pos q];exact r.Yo k ry
 ·rw[if_neg q,if_neg q];exact Paired.snoc r ⟨rfl,hb,ry⟩
theorem KT.keeps {H H':Hp} {kvs:List (List Key × V)} {xs:List (List Key × Addr × Value)} (r:KT H kvs xs) (ht:∀b ys,H b=some (.tup ys)→H' b=some (.tup ys)):KT H' kvs xs:=
 Paired.Xo r fun _ _ z=>⟨z.1,ht _ _ z.2.1,z.2.2⟩
section
variable {P:Program} {w:World} {H:Hp} {h:Heap} {a:Addr}
theorem Wc {u:HO} (ok:pW P w H h) (e:Rd H a u):xb P w H h a u:=e.ok ok
theorem Wq {kvs:List (Key × V)} (ok:pW P w H h) (e:Rd H a (.dK kvs)):kvs.length≤sizeLine∧(a == sysModules)=false∧∃vs,KV kvs vs∧h.DictOf (vk P w) a vs:=
 show xb P w H h a (.dK kvs) from Wc ok e
theorem Gk {kvs:List (Key × V)} (ok:pW P w H h) (e:H a=some (.dK kvs)):kvs.length≤sizeLine∧(a == sysModules)=false∧∃vs,KV kvs vs∧h.DictOf (vk P w) a vs:=Wq ok (.inl e)
theorem aD {ks:List Key} (ok:pW P w H h) (e:H a=some (.tup (ks.map kV))):(tupleKind (vk P w)).is h ks a:=by
 obtain⟨_,its,r,o,h1,h2,n,h3⟩:=(show xb P w H h a (.tup (ks.map kV)) from ok a _ e)
 exact⟨o,its.toArray,n,h1,h2,h3,by simpa using tP r⟩
theorem Wj {kvs:List (List Key × V)} (ok:pW P w H h) (e:Rd H a (.dT kvs)):kvs.length≤sizeLine∧(a == sysModules)=false∧
  ∃xs,KT H kvs xs∧h.DictOfH (tupleKind (vk P w)) a xs:=by
 obtain⟨z,y,xs,r,o,es,ep,h1,h2,h3,h4,h5⟩:=(show xb P w H h a (.dT kvs) from Wc ok e)
 refine⟨z,y,xs,r,o,es,ep,h1,h2,h3,h4,fun x hx=>?_,h5⟩
 have all:∀{l:List (List Key × V)} {m:List (List Key × Addr × Value)},KT H l m→∀x∈m,(tupleKind (vk P w)).is h x.1 x.2.1:=by
  intro l m q
  induction q with
  | nil=>intro x hx;exact nomatch hx
  | @cons p q ps qs hq t ih=>
   intro x hx
   rcases List.mem_cons.mp hx with e | hx
   ·subst e
    exact aD ok (by rw[←hq.1];exact hq.2.1)
   ·exact ih x hx
 exact all r x hx
theorem Gw {kvs:List (List Key × V)} (ok:pW P w H h) (e:H a=some (.dT kvs)):kvs.length≤sizeLine∧(a == sysModules)=false∧
  ∃xs,KT H kvs xs∧h.DictOfH (tupleKind (vk P w)) a xs:=Wj ok (.inl e)
end
noncomputable def rJ (H:Hp) (a:Addr) (y:V) (r:Option V):Prop:=
 (∃kvs k,Rd H a (.dK kvs)∧y=kV k∧r=pK kvs k)∨∃kvs k b,Rd H a (.dT kvs)∧y=.ref b∧H b=some (.tup (k.map kV))∧r=pK kvs k
noncomputable def QQ (H:Hp) (a:Addr) (y v:V) (H':Hp):Prop:=
 (∃kvs k,H a=some (.dK kvs)∧y=kV k∧kvs.length < sizeLine∧H'=upd H a (.dK (putK kvs k v)))∨
 ∃kvs k b,H a=some (.dT kvs)∧y=.ref b∧H b=some (.tup (k.map kV))∧kvs.length < sizeLine∧H'=upd H a (.dT (putK kvs k v))
theorem rJ.k {H:Hp} {a:Addr} {kvs:List (Key × V)} {k:Key} (e:H a=some (.dK kvs)):rJ H a (kV k) (pK kvs k):=.inl ⟨kvs,k,.inl e,rfl,rfl⟩
theorem QQ.k {H:Hp} {a:Addr} {kvs:List (Key × V)} {k:Key} {v:V} (e:H a=some (.dK kvs)) (hl:kvs.length < sizeLine):QQ H a (kV k) v (upd H a (.dK (putK kvs k v))):=.inl ⟨kvs,k,e,rfl,hl,rfl⟩
section
variable {X:Cx} {pins:List (Addr × Obj)} {σ:St} {H:Hp} {s:Shared} {a:Addr} {y v:V} {u r:Value} {o:Option V} {A:Around} {E:Value→Shared→Prop}
theorem Inv.big (I:Inv X pins σ H s):sysModules < s.heap.objs.size:=by
 have h:mainGlobals < s.heap.objs.size:=(I.mod.glob.keeps I.bk).lt
 exact Nat.lt_trans (by decide) h
theorem HY {Q:Value→Shared→Prop} (hu:A.units + 1 < cLine) (I:Inv X pins σ H s) (g:rJ H a y o) (ry:RelV y u) (h:∀s',Inv X pins σ H s'→Q (.bool o.isSome) s') :
  wpAny (model X.prog X.w) A (compareOp .In u (.ref a)) Q E s:=by
 rcases g with ⟨kvs,k,e,ey,l⟩ | ⟨kvs,k,b,e,ey,eb,l⟩
 ·subst ey
  obtain⟨z,hd,vs,rel,dd⟩:=Wq I.jc e
  refine wpAny_in_of (Xp ry) hd dd.mapOf ?_
  rw[←(rel.val k).cT,←l]
  exact h _ (I.tok _)
 ·subst ey
  cases (show u=Value.ref b from ry)
  obtain⟨z,hd,xs,rel,dd⟩:=Wj I.jc e
  refine wpAny_in_heap (tupleKind_room_in1 hu) (aD I.jc eb) hd dd ?_
  have q:=(rel.val k).cT
  rw[Option.isSome_map] at q
  rw[←q,←l]
  exact h _ (I.tok _)
theorem ZM {h':Heap} {t':Nat} {ob:HO} (I:Inv X pins σ H s) (mu:Y3 (H a)) (hs:Heap.SameBut a s.heap h') (he:∃q,h'.get? a=some q) (new:xb X.prog X.w (upd H a ob) h' a ob) :
  Inv X pins σ (upd H a ob) { s with heap:=h',toks:=t' }:=
 I.write (x:=a) (e:=a) mu (.inl rfl) (fun b q hb z=>(hs.2 b hb).trans z) he new
theorem WM {P:Program} {w:World} {H':Hp} {h':Heap} {kvs:List (Key × V)} {vs:List (Key × Value)} (z:kvs.length≤sizeLine) (hd:(a == sysModules)=false) (rel:KV kvs vs) (dd:h'.DictOf (vk P w) a vs) :
  xb P w H' h' a (.dK kvs):=⟨z,hd,vs,rel,dd⟩
theorem QF {H':Hp} {Q:Unit→Shared→Prop} (hu:A.units + 1 < cLine) (I:Inv X pins σ H s) (g:QQ H a y v H') (ry:RelV y u) (rv:RelV v r) (h:∀s',Inv X pins σ H' s'→Q () s') :
  wpAny (model X.prog X.w) A (setItem (.ref a) u r) Q E s:=by
 rcases g with ⟨kvs,k,e,ey,l,eH⟩ | ⟨kvs,k,b,e,ey,eb,l,eH⟩
 ·subst ey eH
  obtain⟨z,hd,vs,rel,dd⟩:=Gk I.jc e
  have hz:vs.length≤sizeLine:=by rw[←rel.length];exact z
  have hl:(putK kvs k v).length≤sizeLine:=by have:=uu kvs k v;omega
  refine wpAny_setItem_pairs (hsz:=hz) (Xp ry) dd fun h' dd' hs=>h _ ?_
  have he:∃q,h'.get? a=some q:=let ⟨q,_,_,hq,_⟩:=dd';⟨q,hq⟩
  exact ZM I (by rw[e];exact True.intro) hs he (WM hl hd (rel.put k rv) dd')
 ·subst ey eH
  cases (show u=Value.ref b from ry)
  obtain⟨z,hd,xs,rel,dd⟩:=Gw I.jc e
  have hz:xs.length≤sizeLine:=by rw[←Paired.length rel];exact z
  have hl:(putK kvs k v).length≤sizeLine:=by have:=uu kvs k v;omega
  refine wpAny_setItem_heap (hsz:=hz) (tupleKind_room_in1 hu) (aD I.jc eb) dd fun h' dd' hs=>h _ ?_
  obtain⟨q,es,ep,hq,h2,h3,h4,_,h5⟩:=dd'
  refine ZM I (by rw[e];exact True.intro) hs ⟨q,hq⟩ ⟨hl,hd,_,(rel.put k eb rv).keeps fun c ys ec=>?_,q,es,ep,hq,h2,h3,h4,h5⟩
  rw[qB (yV ec e (fun z=>nomatch z))]
  exact ec
end
section
variable {X:Cx} {pins:List (Addr × Obj)} {σ:St} {H:Hp} {s:Shared} {a:Addr} {kvs:List (Key × V)} {k:Key} {u:Value} {A:Around} {E:Value→Shared→Prop}
end
noncomputable def Ph (i:Expr):Prop:=∀ov iv,subscripted i false ov iv=operate [ov,iv] (getItem ov iv)
noncomputable def B0 (td ty:TE):TE:=fun σ H Q=>td σ H fun x H1=>ty σ H1 fun y H2=>∃a v,x=.ref a∧rJ H2 a y (some v)∧Q v H2
noncomputable def Bc (ty td:TE):TE:=fun σ H Q=>ty σ H fun y H1=>td σ H1 fun x H2=>∃a o,x=.ref a∧rJ H2 a y o∧Q (.bl o.isSome) H2
noncomputable def Hl (ty td:TE):TE:=fun σ H Q=>ty σ H fun y H1=>td σ H1 fun x H2=>∃a o,x=.ref a∧rJ H2 a y o∧Q (.bl (!o.isSome)) H2
noncomputable def BO (td ty tv:TE):TS:=fun D σ H=>tv σ H fun v H1=>td σ H1 fun x H2=>ty σ H2 fun y H3=>∃a H4,x=.ref a∧QQ H3 a y v H4∧D.nx σ H4
noncomputable def BS (td ty tv:TE) (rd:V→V→Hp→VK→Prop):TS:=fun D σ H=>td σ H fun x H1=>ty σ H1 fun y H2=>∃a v,x=.ref a∧rJ H2 a y (some v)∧
 tv σ H2 fun y2 H3=>rd v y2 H3 fun z H4=>∃H5,QQ H4 a y z H5∧D.nx σ H5
noncomputable def BN (td ty:TE):TS:=fun D σ H=>td σ H fun x H1=>ty σ H1 fun y H2=>∃a kvs k,x=.ref a∧H2 a=some (.dK kvs)∧y=kV k∧(pK kvs k).isSome=true∧D.nx σ (upd H2 a (.dK (J5 kvs k)))
section
variable {X:Cx} {o i e value:Expr} {pos pos' tpos:Pos} {td ty tv:TE}
theorem XU (hu:X.A.units + 1 < cLine) (hi:PE X i ty) (ho:PE X o td):PC X .In i o (Bc ty td):=by
 intro pins s σ H Q I h
 refine xl (hi pins s σ H _ I h) fun iv s1 ⟨y,H1,I1,ry,q1⟩=>xl (ho pins s1 σ H1 _ I1 q1) fun u s2 ⟨x,H2,I2,rx,a,ov,ex,g,q2⟩=>?_
 subst ex
 obtain rfl:u=Value.ref a:=rx
 exact HY hu I2 g ry fun s3 I3=>⟨.bl ov.isSome,H2,I3,rfl,q2⟩
end
theorem J3 {P:Program} {w:World} {H:Hp} (h:Heap) (hb:sysModules < h.objs.size):xb P w H (h.push { cls:=.type "dict",data:=.dict #[] }) h.objs.size (.dK []):=
 ⟨Nat.zero_le _,beq_eq_false_iff_ne.mpr (Ne.symm (Nat.ne_of_lt hb)),[],.nil,Heap.DictOf.new h⟩
noncomputable def YH:TE:=fun _ H Q=>∀p,H p=none→Q (.ref p) (upd H p (.dK []))
noncomputable def Bu:TE:=fun _ H Q=>∀p,H p=none→Q (.ref p) (upd H p (.dT []))
section
variable {X:Cx} {pos:Pos}
theorem XS:PE X (.Dict [] [] pos) YH:=fun pins s σ H Q I h=>
 wpAny_Dict_empty ⟨.ref s.heap.objs.size,_,I.laid (a:=s.heap.objs.size) (o:=.dK []) (t':=s.toks) (fun _ _ q=>Heap.get?_push_of_some _ q) (Nat.le_refl _) (J3 s.heap I.big),rfl,h _ (I.jc.fresh (Nat.le_refl _))⟩
end
noncomputable def Zn:List (TE × TE)→St→Hp→(List (V × V)→Hp→Prop)→Prop
 | [],_,H,Q=>Q [] H
 | (tk,tv) :: r,σ,H,Q=>tk σ H fun x H1=>tv σ H1 fun y H2=>Zn r σ H2 fun ps H3=>Q ((x,y) :: ps) H3
noncomputable abbrev VV:List (V × V)→List (Value × Value)→Prop:=Paired fun p q=>RelV p.1 q.1∧RelV p.2 q.2
noncomputable def Fq (X:Cx) (pos:Pos) (keys:List (Option Expr)) (values:List Expr) (trs:List (TE × TE)):Prop:=
 ∀(pins:List (Addr × Obj)) (s:Shared) (σ:St) (H:Hp) (Q:List (V × V)→Hp→Prop),Inv X pins σ H s→Zn trs σ H Q→
  wpAny (model X.prog X.w) X.A (evalPairs (pairTrees keys values X.env pos)) (fun vs s'=>∃ps H',Inv X pins σ H' s'∧VV ps vs∧Q ps H') X.xe s
noncomputable def W5 (kvs more:List (Key × V)):List (Key × V):=more.foldl (fun acc kv=>putK acc kv.1 kv.2) kvs
noncomputable def B1 (trs:List (TE × TE)):TE:=fun σ H Q=>∀p,H p=none→Zn trs σ (upd H p (.dK [])) fun ps H2=>H2 p=some (.dK [])∧∃kvs:List (Key × V),ps=kvs.map (fun kv=>(kV kv.1,kv.2))∧kvs.length≤15∧Q (.ref p) (upd H2 p (.dK (W5 [] kvs)))
structure M1 (X:Cx) (o:Expr) (m:Str) (apos:Pos) (e:Expr) (cpos:Pos):Prop where
 base:attributeBase o m X.env (eval o X.env)=eval o X.env
 nE:((backTo cpos (starEach [e] X.env)).all (fun x=>!x.1) && (backToKw cpos (keywordEach [] X.env)).all (fun x=>x.1.isSome)
  && decide (([e]:List Expr).length + ([]:List Keyword).length + (if ([]:List Keyword).isEmpty then 0 else 1) < 30))=true
 line:(apos.endLine == cpos.line)=true
 trees:backTo cpos (starEach [e] X.env)=[(false,eval e X.env)]
structure M2 (X:Cx) (o:Expr) (m:Str) (apos:Pos) (e f:Expr) (cpos:Pos):Prop where
 base:attributeBase o m X.env (eval o X.env)=eval o X.env
 nE:((backTo cpos (starEach [e,f] X.env)).all (fun x=>!x.1) && (backToKw cpos (keywordEach [] X.env)).all (fun x=>x.1.isSome)
  && decide (([e,f]:List Expr).length + ([]:List Keyword).length + (if ([]:List Keyword).isEmpty then 0 else 1) < 30))=true
 line:(apos.endLine == cpos.line)=true
 trees:backTo cpos (starEach [e,f] X.env)=[(false,eval e X.env),(false,eval f X.env)]
noncomputable def Hw (H:Hp) (a:Addr):Prop:=(∃kvs,Rd H a (.dK kvs))∨∃kvs,Rd H a (.dT kvs)
section
variable {X:Cx} {pins:List (Addr × Obj)} {σ:St} {H:Hp} {s:Shared} {a:Addr} {y d:V} {u r:Value} {o:Option V} {A:Around} {E:Value→Shared→Prop}
end
noncomputable def Bm (td ty:TE):TE:=fun σ H Q=>td σ H fun x H1=>∃a,x=.ref a∧Hw H1 a∧ty σ H1 fun y H2=>∃o,rJ H2 a y o∧Q (o.getD .non) H2
noncomputable def Bd (td ty tx:TE):TE:=fun σ H Q=>td σ H fun x H1=>∃a,x=.ref a∧Hw H1 a∧ty σ H1 fun y H2=>tx σ H2 fun z H3=>∃o,rJ H3 a y o∧Q (o.getD z) H3
noncomputable def Br (td ty:TE):TE:=fun σ H Q=>td σ H fun x H1=>∃a,x=.ref a∧Hw H1 a∧ty σ H1 fun y H2=>∃kvs k v,H2 a=some (.dK kvs)∧y=kV k∧pK kvs k=some v∧Q v (upd H2 a (.dK (J5 kvs k)))
noncomputable def Bl (td ty tx:TE):TE:=fun σ H Q=>td σ H fun x H1=>∃a,x=.ref a∧Hw H1 a∧ty σ H1 fun y H2=>tx σ H2 fun z H3=>∃kvs k,H3 a=some (.dK kvs)∧y=kV k∧
 (∀v,pK kvs k=some v→Q v (upd H3 a (.dK (J5 kvs k))))∧(pK kvs k=none→Q z H3)
section
variable {X:Cx} {o e f:Expr} {apos cpos:Pos} {td ty tx:TE}
end
section
variable {X:Cx} {pins:List (Addr × Obj)} {σ:St} {H:Hp} {s:Shared} {a:Addr} {kvs:List (Key × V)} {A:Around} {E:Value→Shared→Prop}
end
section
variable {X:Cx} {pins:List (Addr × Obj)} {σ:St} {H:Hp} {s:Shared} {a:Addr} {y:V} {u:Value} {A:Around} {E:Value→Shared→Prop}
end
end L2
namespace L2
open PySem PySem.Spec PyProof.Rows
section
variable {X:Cx}
end
section
variable {κ:Type} [DecidableEq κ]
end
end L2
namespace L2
open PySem PySem.Spec PyProof.Rows
section
variable {X:Cx}
theorem Va {pos:Pos}:PE X (.Dict [] [] pos) (fun _ H Q=>Nw H (.dK []) Q):=XS.mono fun _ _ _ q=>q.el
theorem tE (hu:X.A.units + 1 < cLine):Y6 X (fun o i v H Q=>∃a kvs k,o=.ref a∧i=kV k∧H a=some (.dK kvs)∧kvs.length < sizeLine∧Ch H a (.dK (putK kvs k v)) Q):=by
 intro pins s σ H o i v ov iv u Q I ro ri rv h
 obtain⟨a,kvs,k,rfl,rfl,e,l,q⟩:=h
 cases ro
 exact QF hu I (QQ.k e l) ri rv fun s' I'=>⟨_,I',q.el⟩
end
end L2
namespace L2
open PyProof.Rows PySem PySem.Spec
section
variable {w:World} {A:Around} {E:Value→Shared→Prop} {s:Shared} {prog:Program}
end
noncomputable def iH:List Str→List Str→Nat
 | _,[]=>0
 | seen,z :: r=>(if z∈seen then 0 else 1) + iH (z :: seen) r
section
variable {w:World} {A:Around} {E:Value→Shared→Prop} {prog:Program}
theorem Zm {K:Type} [DecidableEq K] {knd:KeyKind prog w K} {h h':Heap} {a it:Addr} {S:K→Bool} {n:Nat} (x:Heap.SetOf knd h a S n) (hb:Heap.SameBut it h h') (hne:a≠it):Heap.SetOf knd h' a S n:=by
 obtain⟨o,es,ep,t,ho,r⟩:=x
 exact⟨o,es,ep,t,(hb.2 a hne).trans ho,r⟩
theorem Kg {K:Type} [DecidableEq K] {knd:KeyKind prog w K} {h:Heap} {a:Addr} {S S':K→Bool} {n:Nat} (x:Heap.SetOf knd h a S n) (e:∀y,S' y=S y):Heap.SetOf knd h a S' n:=by
 have:S'=S:=funext e
 rw[this];exact x
theorem Kh {a it l : Addr} {items : Array Value} (hh : A.handled = none) (hia : it ≠ a) (hli : l ≠ it) (hla : l ≠ a) : ∀ (rest : List Str) (i : Nat) (s : Shared) (seen : List Str) (n : Nat) (R : Result → Shared → Prop), s.heap.IsListIter it l i → s.heap.IsList l items → items.size = i + rest.length → (∀ (j : Nat) (z : Str), rest[j]? = some z → ∃ t, items[i + j]? = some (.str z t)) →
    s.heap.SetOf (strKind prog w) a (fun y => decide (y ∈ seen)) n → n + rest.length < 1000 →
    (∀ h' tk S', (∀ b o, b ≠ it → b ≠ a → s.heap.get? b = some o → h'.get? b = some o) → h'.SetOf (strKind prog w) a S' (n + iH seen rest) → R (.ok (.ret .none)) { s with heap := h', toks := tk }) →
    codeAny (model prog w) A (.builtin "set.update.loop" ⟨[.ref a, .ref it], []⟩) R s := by
  intro rest
  induction rest with
  | nil =>
    intro i s seen n R h1 h2 h3 h4 h5 h6 k
    refine codeAny_builtin F.entry_set_update_loop ?_
    show wpAny _ _ (pyNext (.ref it) >>= _) _ _ s
    refine wpAny_bind (wpAny_pyNext_list_end ?_ h1 h2 (by rw [Array.getElem?_eq_none_iff]; simp at h3; omega) fun h' hx => ?_)
    · exact hh
    · refine wpAny_pure (k h' s.toks (fun y => decide (y ∈ seen)) (fun b o hb _ e => hx b o hb e) ?_)
      obtain ⟨o, es, ep, t, ho, q⟩ := h5
      exact ⟨o, es, ep, t, hx _ _ (Ne.symm hia) ho, q⟩
  | cons z r ih =>
    intro i s seen n R h1 h2 h3 h4 h5 h6 k
    obtain ⟨t, ht⟩ := h4 0 z rfl
    refine codeAny_builtin F.entry_set_update_loop ?_
    show wpAny _ _ (pyNext (.ref it) >>= _) _ _ s
    refine wpAny_bind (wpAny_pyNext_list_item h1 h2 ht fun h' hi' hb => ?_)
    dsimp only
    unfold setAdd
    refine wpAny_bind (wpAny_holding (wpAny_holding (wpAny_bind ((strKind prog w).pyHash (strKind_is prog w z t) ?_))))
    have h5' := Zm h5 hb (Ne.symm hia)
    have hl' : h'.IsList l items := by
      obtain ⟨o, ho, q⟩ := h2
      exact ⟨o, (hb.2 l hli).trans ho, q⟩
    refine wpAny_setAddHashed_of (s := { s with heap := h', toks := s.toks + 1 }) (strKind_is prog w z t) rfl h5' (by simp only [List.length_cons] at h6; unfold scanBound; omega) fun h2' hb2 h52 => ?_
    refine wpAny_pure ⟨Code.quiet_builtin _ (by decide +kernel), ?_⟩
    have hl2 : h2'.IsList l items := by
      obtain ⟨o, ho, q⟩ := hl'
      exact ⟨o, (hb2.2 l hla).trans ho, q⟩
    have hi2 : h2'.IsListIter it l (i + 1) := by
      obtain ⟨o, ho, q⟩ := hi'
      exact ⟨o, (hb2.2 it hia).trans ho, q⟩
    have h53 : h2'.SetOf (strKind prog w) a (fun y => decide (y ∈ z :: seen)) (n + if z ∈ seen then 0 else 1) := by
      have e : (if decide (z ∈ seen) = true then n else n + 1) = n + if z ∈ seen then 0 else 1 := by by_cases q : z ∈ seen <;> simp [q]
      rw [← e]
      exact Kg h52 fun y => by by_cases q : y = z <;> by_cases q' : y ∈ seen <;> simp [q, q']
    refine ih (i + 1) { s with heap := h2', toks := s.toks + 1 } (z :: seen) _ R hi2 hl2 (by simp only [List.length_cons] at h3; omega) (fun j y hj => ?_) h53 ?_ fun h3' tk S' q1 q2 => ?_
    · obtain ⟨t', ht'⟩ := h4 (j + 1) y (by simpa using hj)
      exact ⟨t', by rw [← ht']; congr 1; omega⟩
    · simp only [List.length_cons] at h6
      split <;> omega
    · refine k h3' tk S' (fun b o b1 b2 e => q1 b o b1 b2 ((hb2.2 b b2).trans ((hb.2 b b1).trans e))) ?_
      rw [show n + iH seen (z :: r) = n + (if z ∈ seen then 0 else 1) + iH (z :: seen) r by simp only [iH]; omega]
      exact q2
set_option maxHeartbeats 1000001 in
theorem Ju {s : Shared} {a l : Addr} {led : Bool} {items : Array Value} {zs : List Str} {Q : Fin → Shared → Prop} (hh : A.handled = none) (ha : s.heap.get? a = some { cls := .type "set", dict := none, data := .set #[] 0 (.fresh 0 0 led) }) (hl : s.heap.IsList l items) (hz : items.size = zs.length) (hi : ∀ (j : Nat) (z : Str), zs[j]? = some z → ∃ t, items[j]? = some (.str z t)) (hn : zs.length < 1000) (hla : l ≠ a)
    (h : ∀ h' tk S', (∀ b o, b ≠ a → s.heap.get? b = some o → h'.get? b = some o) → h'.SetOf (strKind prog w) a S' (iH [] zs) → Q (.done (.ret .none)) { s with heap := h', toks := tk }) : wpAny (model prog w) A (Builtin.«set.__init__» ⟨[.ref a, .ref l], []⟩) Q E s := by
  have hT : Shared.TypeIs s (.ref a) "set" := ⟨_, ha, rfl⟩
  unfold Builtin.«set.__init__» noKeywords
  obtain ⟨ol, hol, hcl, nl, hdl⟩ := id hl
  have hTl : Shared.TypeIs s (.ref l) "list" := ⟨ol, hol, hcl⟩
  wp_walk
  refine wpAny_of_eq F.sub_list_set (wpAny_isInstance hTl F.sub_list_frozenset ?_)
  (rw [if_neg Bool.false_ne_true])
  refine wpAny_bind (wpAny_typeOf hTl ?_)
  rw [if_neg (by decide)]
  refine wpAny_bind (wpAny_pyIter_list hl ?_)
  generalize hoi : ({ cls := .type "list_iterator", data := .fields #[.ref l, .int 0 0] } : Obj) = oi
  show wpAny _ _ (runValue (.builtin "set.update.loop" ⟨[.ref a, .ref s.heap.objs.size], []⟩) >>= _) _ _ { s with heap := s.heap.push oi }
  have sa : a < s.heap.objs.size := Heap.lt_size ha
  have sl : l < s.heap.objs.size := Heap.lt_size hol
  have k0 : ∀ b o, s.heap.get? b = some o → (s.heap.push oi).get? b = some o := fun b o e => Heap.get?_push_of_some _ e
  refine wpAny_bind (wpAny_runValue (Kh hh (Nat.ne_of_gt sa) (Nat.ne_of_lt sl) hla zs 0 { s with heap := s.heap.push oi } [] 0 _ ?_ ⟨ol, k0 _ _ hol, hcl, nl, hdl⟩ (by omega) (fun j z e => by simpa using hi j z e) ⟨_, #[], 0, _, k0 _ _ ha, ⟨rfl, rfl, rfl⟩, rfl, fun e he => by simp at he, fun y => by simp, by unfold scanBound; simp, rfl, rfl⟩ (by omega) fun h' tk S' q1 q2 => ?_))
  · exact ⟨oi, Heap.get?_push_size _ (by rw [← hoi]; rfl), by rw [← hoi], by rw [← hoi]; rfl⟩
  · refine wpAny_pure (wpAny_pure (h h' tk S' (fun b o hb e => q1 b o (Nat.ne_of_lt (Heap.lt_size e)) hb (k0 b o e)) ?_))
    rw [Nat.zero_add] at q2; exact q2
set_option maxHeartbeats 1000001 in
/-- what a call may come to: a value, or an exception -/
theorem wants_or {Q : Value → Shared → Prop} {E : Value → Shared → Prop} {r : Result} {s : Shared} (h : wants Q E r s) : (∃ v, r = .ok (.ret v) ∧ Q v s) ∨ ∃ e, r = .error e ∧ E e s := by
  rcases r with e | f
  · exact .inr ⟨e, rfl, h⟩
  · cases f <;> first | exact .inl ⟨_, rfl, h⟩ | exact h.elim
set_option maxHeartbeats 1000001 in
theorem QY {s : Shared} {l : Addr} {items : Array Value} {zs : List Str} {Q : Value → Shared → Prop} (hh : A.handled = none) (hl : s.heap.IsList l items) (hz : items.size = zs.length) (hi : ∀ (j : Nat) (z : Str), zs[j]? = some z → ∃ t, items[j]? = some (.str z t)) (hn : zs.length < 1000)
    (h : ∀ h' tk a S', s.heap.objs.size ≤ a → (∀ b o, s.heap.get? b = some o → h'.get? b = some o) → h'.SetOf (strKind prog w) a S' (iH [] zs) → Q (.ref a) { s with heap := h', toks := tk }) : wpAny (model prog w) A (call (.type "set") [.ref l]) Q E s := by
  have C := F.called_set
  obtain ⟨_, _, m⟩ := C.mro
  obtain ⟨c1, c2, c3, c4, c5⟩ : _ ∧ _ ∧ _ ∧ _ ∧ _ := ⟨C.made, C.sub, C.notType, C.canCreate, F.typeCall_set_1 (.ref l)⟩
  have up : ∀ {o : Obj} {b : Addr} {u : Obj}, s.heap.get? b = some u → (s.heap.push o).get? b = some u := fun e => Heap.get?_push_of_some _ e
  have lo : ∀ {b : Addr} {u : Obj}, s.heap.get? b = some u → b ≠ s.heap.objs.size := fun e => Nat.ne_of_lt (Heap.lt_size e)
  obtain ⟨ol, gl, dl⟩ := hl
  refine wpAny_call (codeAny_of_tree (?_ : wpAny _ _ (callAny (.type "set") _) _ _ _))
  refine wpAny_pure ⟨Code.quiet_builtin _ (by decide +kernel), codeAny_builtin F.entry_type_call (Around.under_plain (weight_type_call_type "set" [.ref l] []) rfl ▸ ?_)⟩
  repeat any_goals first | assumption | wp_step
  refine codeAny_mono (code_set_new_1 _ (E := E) (Q₁ := fun v s1 => v = .ref s.heap.objs.size ∧ ∃ led, s1 = { s with heap := s.heap.push { cls := .type "set", data := .set #[] 0 (.fresh 0 0 led) } }) fun led => ⟨rfl, led, rfl⟩) fun r s1 hr => ?_
  rcases wants_or hr with ⟨_, rfl, rfl, led, rfl⟩ | ⟨_, rfl, he⟩
  · have g := Heap.get?_push_size s.heap (o := { cls := .type "set", data := .set #[] 0 (.fresh 0 0 led) }) rfl
    have ty : Shared.TypeIs { s with heap := s.heap.push _ } (.ref s.heap.objs.size) "set" := ⟨_, g, rfl⟩
    obtain ⟨c6, c7⟩ : _ ∧ _ := ⟨C.init.lookup, C.init.bind (.ref s.heap.objs.size)⟩
    repeat any_goals first | assumption | wp_step
    have run := Ju (s := { s with heap := s.heap.push _ }) (prog := prog) (w := w) (A := A.in1.in1) (E := E) (Q := fun f s2 => f = .done (.ret .none) ∧ Q (.ref s.heap.objs.size) s2) hh g ⟨ol, up gl, dl⟩ hz hi hn (lo gl) fun h' tk S' k1 k2 => ⟨rfl, h h' tk _ S' (Nat.le_refl _) (fun b u e => k1 b u (lo e) (up e)) k2⟩
    refine codeAny_mono (codeAny_call_builtin (R := wants (fun v s2 => v = .none ∧ Q (.ref s.heap.objs.size) s2) E) C.init.plain F.entry_set_init (check_set_init_1 ty (xl run fun f s2 ⟨e, q⟩ => e ▸ ⟨rfl, q⟩))) fun r s2 hr => ?_
    rcases wants_or hr with ⟨_, rfl, rfl, q⟩ | ⟨_, rfl, he⟩
    · repeat any_goals first | assumption | wp_step
    · exact he
  · exact he
end
end L2
namespace L2
open PyProof.Rows PySem PySem.Spec
noncomputable def Y0 (P:Program) (w:World) (a:Addr) (n:Nat):HO:=.ext fun h=>∃S,Heap.SetOf (strKind P w) h a S n
theorem YK {P:Program} {w:World} {H:Hp} {h:Heap} {a:Addr} {S:Str→Bool} {n:Nat} (x:Heap.SetOf (strKind P w) h a S n):xb P w H h a (Y0 P w a n):=by
 have x':=x
 obtain⟨o,es,ep,t,ho,r⟩:=x'
 refine⟨⟨S,x⟩,⟨o,ho⟩,fun h1 h2 ⟨S',o',es',ep',t',ho',r'⟩ k=>⟨S',o',es',ep',t',k _ ho',r'⟩⟩
theorem YX {P:Program} {w:World} {H:Hp} {h:Heap} {a:Addr} {n:Nat} (x:pW P w H h) (q:H a=some (Y0 P w a n)):∃S,Heap.SetOf (strKind P w) h a S n:=(x a _ q).1
section
variable {X:Cx} {K:PySem.W.Frag}
theorem Ve (hK:X.K=K) (hc:X.calm=true):vC X (.type "set") (fun xs H Q=>∃p zs,xs=[.ref p]∧qD K H p (zs.map V.str)∧zs.length < 1000∧∀a,H a=none→Q (.ref a) (upd H a (Y0 X.prog X.w a (iH [] zs)))):=by
 subst hK
 (intro pins s σ H xs us Q I r h)
 obtain⟨p,zs,rfl,hl,hn,k⟩:=h
 (obtain⟨u,rfl,ru⟩:=vals1 r)
 cases ru
 obtain⟨its,rv,⟨o,n,ho,hcl,_,hd⟩,_⟩:=I.list hl
 have hz:its.length=zs.length:=by rw[←rv.length,List.length_map]
 refine QY (zs:=zs) (I.ok.hd hc) ⟨o,ho,hcl,n,hd⟩ (by simpa using hz) (fun j z e=>?_) hn fun h' tk a S' q1 q2 q3=>?_
 ·obtain⟨u,e1,⟨t,rfl⟩⟩:=rv.get (i:=j) (x:=.str z) (by rw[List.getElem?_map,e];rfl)
  exact⟨t,by simpa using e1⟩
 ·exact⟨.ref a,_,I.laid (a:=a) (o:=Y0 X.prog X.w a (iH [] zs)) (h':=h') (t':=tk) q2 q1 (YK q3),rfl,k a (I.jc.fresh q1)⟩
theorem QW:vC X (.builtin "len") (fun xs H Q=>∃a n,xs=[V.ref a]∧H a=some (Y0 X.prog X.w a n)∧Q (.int (n:Nat)) H):=by
 (intro pins s σ H xs us Q I r h)
 obtain⟨a,n,rfl,ha,q⟩:=h
 (obtain⟨u,rfl,ru⟩:=vals1 r)
 cases ru
 obtain⟨S,o,es,ep,t,ho,hex,hd,_,_,hb,hf,hn⟩:=YX I.jc ha
 refine call_len_set ho hex hd hf (by have:es.size < 4096:=hb;omega) ?_
 rw[hn]
 exact⟨.int n,H,I.tok _,⟨_,rfl⟩,q⟩
end
end L2
namespace L2
theorem J1:∀(seen zs:List PySem.Str),iH seen zs≤zs.length
 | _,[]=>Nat.le_refl _
 | seen,z :: r=>by
  have:=J1 (z :: seen) r
  simp only[iH,List.length_cons]
  split<;>omega
theorem ZD:∀(seen zs:List PySem.Str),iH seen zs=zs.length↔zs.Nodup∧∀z∈zs,z∉seen
 | _,[]=>by simp [iH]
 | seen,z :: r=>by
  have h1:=J1 (z :: seen) r
  have h2:=ZD (z :: seen) r
  simp only[iH,List.length_cons,List.nodup_cons,List.mem_cons]
  by_cases q:z∈seen
  ·rw[if_pos q]
   constructor
   ·intro e;omega
   ·rintro ⟨_,h⟩;exact absurd q (h z (.inl rfl))
  ·rw[if_neg q]
   constructor
   ·intro e
    obtain⟨a,b⟩:=h2.mp (by omega)
    refine⟨⟨fun hz=>(b z hz) (by simp),a⟩,?_⟩
    rintro y (rfl | hy)
    ·exact q
    ·exact fun hs=>b y hy (List.mem_cons_of_mem _ hs)
   ·rintro ⟨⟨a,b⟩,c⟩
    have:=h2.mpr ⟨b,fun y hy hs=>?_⟩
    ·omega
    ·rcases List.mem_cons.mp hs with rfl | hs
     ·exact a hy
     ·exact c y (.inr hy) hs
theorem WB (zs:List PySem.Str):decide (((iH [] zs:Nat):Int)=(zs.length:Nat))=decide zs.Nodup:=by
 have:=ZD [] zs
 rw[decide_eq_decide]
 constructor
 ·intro e;exact(this.mp (by omega)).1
 ·intro e;have:=this.mpr ⟨e,fun _ _ h=>by cases h⟩;omega
end L2
namespace L2
open PyProof.Rows PySem PySem.Spec
noncomputable def cn {α:Type} (xs:List α) (ix:List Nat):List α:=ix.filterMap (xs[·]?)
theorem Jy {α:Type} {xs:List α} {ix:List Nat}:∀z∈cn xs ix,z∈xs:=fun z hz=>by
 unfold cn at hz
 obtain⟨i,_,e⟩:=List.mem_filterMap.mp hz
 exact List.mem_of_getElem? e
theorem Vals.pick {xs:List V} {us:List Value} (r:Vals xs us):∀ix:List Nat,Vals (cn xs ix) (cn us ix)
 | []=>.nil
 | i :: ix=>by
  have ih:=Vals.pick r ix
  unfold cn at ih ⊢
  cases h:xs[i]? with
  | none=>
   have h2:=r.none_of h
   rw[List.filterMap_cons,List.filterMap_cons,h,h2]
   exact ih
  | some x=>
   obtain⟨u,h2,ru⟩:=r.get h
   rw[List.filterMap_cons,List.filterMap_cons,h,h2]
   exact .cons ru ih
section
variable {X:Cx} {e ec:Expr} {te:TE} {lo hi:Option Expr} {tl th ts:TO} {pos p2:Pos}
noncomputable def GB (K:PySem.W.Frag):V→Option Int→Option Int→Option Int→Hp→VK→Prop:=fun x lo hi st H Q=>∃a xs,x=.ref a∧qD K H a xs∧st≠some 0∧∀zs:List V,(∀z∈zs,z∈xs)→zs.length≤xs.length→Nw H (.lst zs) Q
noncomputable def G5 (r:V→Option Int→Option Int→Option Int→Hp→VK→Prop) (te:TE) (tl th ts:TO):TE:=fun σ H Q=>te σ H fun x H1=>tl σ H1 fun l H2=>th σ H2 fun u H3=>ts σ H3 fun c H4=>r x l u c H4 Q
theorem Jv (he:PE X e te) (hl:PO X lo tl) (hu:PO X hi th) (hs:PO X (some ec) ts):PE X (.Subscript e (.Slice lo hi (some ec) p2) pos) (G5 (GB X.K) te tl th ts):=by
 intro pins s σ H Q I h
 refine Subscript_ (xl (he pins s σ H _ I h) fun v s1 ⟨x,H1,I1,r1,q1⟩=>?_)
 refine wpAny_Slice (xl (hl pins s1 σ H1 _ I1 q1) fun vl s2 ⟨l,H2,I2,pl,q2⟩=>xl (hu pins s2 σ H2 _ I2 q2) fun vu s3 ⟨u,H3,I3,pu,q3⟩=>xl (hs pins s3 σ H3 _ I3 q3) fun vs s4 ⟨c,H4,I4,pc,q4⟩=>?_)
 obtain⟨a,xs,rfl,hx,hc0,q⟩:=q4
 cases r1
 have I5:Inv X pins σ H4 { s4 with heap:=s4.heap.push { cls:=.type "slice",data:=.fields #[vl,vu,vs] } }:=I4.kept (t':=s4.toks) fun b ob q=>Heap.get?_push_of_some _ q
 obtain⟨its,r,ht,hz⟩:=I5.list hx
 have hg:wpAny (model X.prog X.w) X.A (getItem (.ref a) (.ref s4.heap.objs.size)) (EP X pins σ Q) X.xe { s4 with heap:=s4.heap.push { cls:=.type "slice",data:=.fields #[vl,vu,vs] } }:=by
  have hlen:=r.length
  refine wpAny_getItem_list_slice ht.isList (Heap.IsSliceOf.new ..) pl pu pc hc0 ?_ (by rw[List.size_toArray]<;>omega)
  have hp:slicePick its.toArray l u c=(cn its ((sliceRange (sliceBounds l u c its.toArray.size).1 (sliceBounds l u c its.toArray.size).2.1 (sliceBounds l u c its.toArray.size).2.2))).toArray:=by
   unfold slicePick cn
   simp
  have hsz:(slicePick its.toArray l u c).size≤its.length:=by have:=slicePick_size_le its.toArray l u c;simpa using this
  rw[hp] at hsz ⊢
  generalize (sliceRange (sliceBounds l u c its.toArray.size).1 (sliceBounds l u c its.toArray.size).2.1 (sliceBounds l u c its.toArray.size).2.2)=ix at *
  have rp:=r.pick ix
  have hl2:(cn xs ix).length≤xs.length:=by rw[rp.length];simpa [hlen] using hsz
  refine⟨.ref _,_,I5.laid (t':=s4.toks) (o:=.lst (cn xs ix)) (fun b ob q=>Heap.get?_push_of_some _ q) (Nat.le_refl _) ?_,rfl,(q _ Jy hl2).el _ (I5.jc.fresh (Nat.le_refl _))⟩
  exact⟨Nat.le_trans hl2 hz,_,0,rp,Heap.get?_push_size _ rfl⟩
 show wpAny (model X.prog X.w) X.A (subscriptTail e (.Slice lo hi (some ec) p2) (.ref a) (.ref s4.heap.objs.size)) (EP X pins σ Q) X.xe { s4 with heap:=s4.heap.push { cls:=.type "slice",data:=.fields #[vl,vu,vs] } }
 exact tail_any (ops:=[.ref a,.ref s4.heap.objs.size]) ht.isList.typeIs slot_list_getitem.lookup hg (by with_unfolding_all rfl)
noncomputable def X0 (K:PySem.W.Frag):V→List V→Hp→VK→Prop:=fun x vs H Q=>∃z p ys,x=.str z∧vs=[.ref p]∧yy K H p (ys.map V.str)∧(ys.map (·.length)).sum + ys.length * z.length≤16777216∧Q (.str (Txt.join z ys)) H
theorem XZ:ib X "str.join" (X0 X.K):=by
 intro pins s σ H x vs v us Q I rx rv h
 obtain⟨z,p,ys,rfl,rfl,hq,hz,q⟩:=h
 obtain⟨t,rfl⟩:=rx
 obtain⟨u,rfl,ru⟩:=rv.one
 cases ru
 obtain⟨its,r,pl,_⟩:=I.tuple hq
 exact join_tuple pl (sf (by simpa using r)) hz fun t' k=>⟨.str (Txt.join z ys),H,I.tok _,⟨t',rfl⟩,q⟩
theorem Q3 {K:PySem.W.Frag} (hK:X.K=K):ib X "str.join" (X0 K):=hK▸XZ
theorem Zk {K:PySem.W.Frag} (hK:X.K=K) (he:PE X e te) (hl:PO X lo tl) (hu:PO X hi th) (hs:PO X (some ec) ts):PE X (.Subscript e (.Slice lo hi (some ec) p2) pos) (G5 (GB K) te tl th ts):=hK▸Jv he hl hu hs
end
end L2
set_option maxRecDepth 100000
namespace My
open PySem PySem.Spec PyProof.Rows L2
seal PE PT PW PA PS ZV PI PG YO PO PC Pf Pb
local macro_rules | `(tactic| walk_at "lk")=>`(tactic| first | assumption | exact qx | exact Gd (by assumption) (by walk_at "sm") | (refine qk.look (by assumption) ?_;walk_at "lk"))
local macro_rules | `(tactic| walk_at "sq")=>`(tactic| first | assumption | exact qD.of (by walk_at "lk") | exact Ya (by assumption) (by walk_at "sm"))
local macro_rules | `(tactic| walk_at "sqT")=>`(tactic| first | assumption | exact yy.of (by walk_at "lk") | exact seqTS (by assumption) (by walk_at "sm"))
local macro_rules | `(tactic| walk_at "sm")=>`(tactic| first | assumption | exact qk.refl _ | (refine qk.trans ?_ (by assumption);walk_at "sm"))
local macro_rules | `(tactic| walk_at "sz")=>`(tactic| first | with_reducible assumption | with_reducible exact VY | ((with_reducible apply K8)<;>walk_at "sz") | ((with_reducible apply slice_len);walk_at "sz") | with_reducible exact Xr _)
local macro_rules | `(tactic| walk_at "num")=>`(tactic| first | decide +kernel | omega | (simp only[List.length_cons,List.length_nil];omega))
local macro_rules | `(tactic| walk_at "lsz")=>`(tactic| first
 | ((with_reducible apply WY);(focus walk_at "sz");(focus walk_at "sz");walk_at "num")
 | ((with_reducible apply qj);first | decide +kernel | (simp only[List.length_cons,List.length_nil,List.length_map,List.length_append];omega))
 | ((with_reducible apply small_of);(focus walk_at "sz");walk_at "num"))
local macro_rules | `(tactic| walk_at "ar")=>`(tactic| first
 | walk_at "lsz"
 | omega
 | (refine And.intro ?_ ?_<;>omega)
 | (refine Or.inl (And.intro ?_ ?_)<;>omega)
 | (refine Or.inr (And.intro ?_ ?_)<;>omega)
 | decide +kernel
 | (show (0:Int) < _;decide +kernel)
 | (show (0:Int) < _;omega)
 | (refine And.intro ?_ (And.intro ?_ ?_)<;>decide +kernel))
local macro_rules | `(tactic| walk_at "lsl")=>`(tactic| first
 | exact ux (by simp only[List.length_cons,List.length_nil,List.length_map,List.length_append];omega)
 | exact ux (by omega))
local macro_rules | `(tactic| walk_at "own")=>`(tactic| fail)
local macro_rules | `(tactic| walk_at "fld")=>`(tactic| fail)
local macro_rules | `(tactic| walk_at "r1")=>`(tactic| (fail_if_success (refine Exists.intro (α:=Nat→Nat→L2.St→Hp→Prop) ?_ ?_));first
 | refine⟨_,rfl,?_⟩
 | refine⟨_,(by walk_at "fld" : tf _ _ _ _ _),?_⟩
 | refine⟨_,_,rfl,rfl,?_⟩
 | refine⟨_,_,_,_,rfl,rfl,by walk_at "sq",JC (by walk_at "num") (by walk_at "num"),?_⟩
 | refine⟨_,_,_,_,rfl,rfl,by walk_at "sq",pP (by walk_at "num") (by walk_at "num"),?_⟩
 | refine⟨_,_,_,_,rfl,rfl,by walk_at "sqT",rfl,?_⟩
 | refine⟨_,_,rfl,.inr (by walk_at "sqT"),rfl,rfl,?_⟩
 | refine⟨_,_,rfl,.inl (by walk_at "sq"),rfl,rfl,?_⟩
 | refine⟨_,_,_,rfl,rfl,by walk_at "lsz",JU (by omega) (by omega),?_⟩
 | refine⟨_,_,_,rfl,rfl,by walk_at "lk",by walk_at "lsl",?_⟩
 | refine⟨_,_,rfl,by walk_at "sq",?_⟩
 | refine⟨_,_,rfl,by walk_at "sqT",rfl,?_⟩
 | (refine And.intro ?_ ?_;· (apply Exists.intro;walk_at "sq"))
 | (refine And.intro (Or.inl (And.intro rfl ?_)) ?_;· (apply Exists.intro;walk_at "sq"))
 | refine⟨_,_,rfl,?_⟩
 | refine⟨_,_,_,rfl,?_⟩
 | refine And.intro rfl ?_
 | (refine And.intro ?_ ?_;· assumption)
 | refine⟨_,_,.type "bool",true,rfl,.inl ⟨_,rfl⟩,wY.bl _,dU _ _,?_⟩
 | refine⟨_,_,.type "str",true,rfl,.inl ⟨_,rfl⟩,wY.str _,dU _ _,?_⟩
 | refine⟨_,_,.type "int",true,rfl,.inl ⟨_,rfl⟩,wY.int _,dU _ _,?_⟩
 | refine⟨_,_,.type "list",true,rfl,.inl ⟨_,rfl⟩,wY.lst (by walk_at "lk"),dU _ _,?_⟩
 | (refine And.intro ?_ ?_;· walk_at "ar")
 | refine pI ?_
 | refine mE ?_
 | refine Gf rfl ?_)
local macro_rules | `(tactic| walk_at "rd")=>`(tactic| repeat (first | walk_at "own" | walk_at "r1"))
local macro_rules | `(tactic| walk_at "rdi")=>`(tactic| repeat (first | walk_at "own" | walk_at "r1" | ((show Nw _ _ _);intro _ _ _ _ _)))
set_option genInjectivity false
set_option genSizeOf false
noncomputable def top (i:Nat):Stmt:=PySem.Challenge.pw_pactway_k24_whole_text_again.main.body.getD i (.Pass ⟨0,0,0,0⟩)
noncomputable abbrev jP:Stmt:=inClass (top 2) 0
noncomputable abbrev jN:Stmt:=inClass (top 3) 0
noncomputable abbrev qL:Stmt:=inClass (top 3) 1
noncomputable abbrev xw:Stmt:=inClass (top 3) 2
noncomputable abbrev jB:Stmt:=inClass (top 3) 6
noncomputable abbrev xZ:Stmt:=inClass (top 4) 0
noncomputable abbrev xQ:Stmt:=inClass (top 4) 1
noncomputable abbrev xy:Stmt:=inClass (top 4) 4
noncomputable abbrev j9:Stmt:=inClass (top 5) 0
noncomputable abbrev kq:Stmt:=inClass (top 6) 0
noncomputable abbrev kj:Stmt:=inClass (top 6) 1
noncomputable abbrev xq:Stmt:=inClass (top 7) 0
noncomputable abbrev xj:Stmt:=inClass (top 7) 1
noncomputable abbrev kx:Stmt:=inClass (top 9) 0
noncomputable abbrev jr:Stmt:=inClass (top 9) 1
noncomputable abbrev xX:Stmt:=inClass (top 10) 0
noncomputable abbrev jh:Stmt:=inClass (top 10) 1
noncomputable abbrev jg:Stmt:=inClass (top 10) 2
noncomputable abbrev xJ:Stmt:=inClass (top 11) 0
noncomputable abbrev vw:Stmt:=top 12
noncomputable abbrev jO:Stmt:=inClass (top 15) 0
noncomputable abbrev xK:Stmt:=top 22
noncomputable abbrev jE:Stmt:=top 23
noncomputable abbrev q9:Stmt:=top 24
noncomputable abbrev xx:Stmt:=top 28
noncomputable abbrev je:Stmt:=top 29
noncomputable abbrev xW:Stmt:=top 30
noncomputable abbrev ky:Stmt:=top 31
noncomputable abbrev xV:Stmt:=top 32
noncomputable abbrev jI:Stmt:=top 33
noncomputable abbrev ja:Stmt:=top 34
noncomputable abbrev jJ:Stmt:=top 35
noncomputable abbrev we:Stmt:=top 42
noncomputable abbrev jX:Stmt:=top 43
noncomputable abbrev jA:Stmt:=top 44
noncomputable abbrev ju:Stmt:=top 45
noncomputable abbrev jK:Stmt:=top 46
noncomputable abbrev xa:Stmt:=inClass (top 47) 0
noncomputable abbrev jy:Stmt:=inClass (top 47) 1
noncomputable abbrev j8:Stmt:=inClass (top 47) 2
noncomputable abbrev jz:Stmt:=inClass (top 47) 3
noncomputable abbrev jq:Stmt:=inClass (top 47) 4
noncomputable abbrev qT:Stmt:=inClass (top 47) 5
noncomputable abbrev jT:Stmt:=inClass (top 47) 6
noncomputable abbrev jS:Stmt:=inClass (top 47) 7
noncomputable abbrev xY:Stmt:=top 49
noncomputable abbrev yM:Stmt:=top 50
noncomputable abbrev wZ:Stmt:=top 51
noncomputable abbrev xI:Stmt:=top 52
noncomputable abbrev kh:Stmt:=top 53
noncomputable abbrev kf:Stmt:=top 54
noncomputable abbrev yD:Stmt:=top 55
noncomputable abbrev vi:Stmt:=top 56
noncomputable abbrev kg:Stmt:=top 57
noncomputable abbrev vy:Stmt:=top 58
noncomputable abbrev km:Stmt:=top 59
noncomputable abbrev jV:Stmt:=top 60
noncomputable abbrev wa:Stmt:=top 61
noncomputable abbrev yq:Stmt:=top 62
structure Def (K:PySem.W.Frag) (mg:Str→Option Value) (x:Str) (st:Stmt) (ps:List Str) (f:Addr) (fd:FuncData):Prop where
 fn:K2 K x x st f fd
 bd:Binds K fd ps []
 mg:mg x=some (.ref f)
structure wV (K:PySem.W.Frag) (x q:Str) (st:Stmt) (ps:List Str) (f:Addr) (fd:FuncData):Prop where
 fn:K2 K x q st f fd
 bd:Binds K fd ps []
structure jt where
 pj:Addr
 pz:FuncData
 qE:Addr
 xk:FuncData
 jl:Addr
 vX:FuncData
 mr:Addr
 mm:FuncData
 pq:Addr
 b9:FuncData
 kC:Addr
 yh:FuncData
 gJ:Addr
 pD:FuncData
 ml:Addr
 md:FuncData
 yH:Addr
 bo:FuncData
 vK:Addr
 y0:FuncData
 bW:Addr
 mN:FuncData
 x9:Addr
 vL:FuncData
 yB:Addr
 ba:FuncData
 wB:Addr
 y1:FuncData
 ve:Addr
 ya:FuncData
 xA:Addr
 kD:FuncData
 xU:Addr
 vz:FuncData
 vj:Addr
 wH:FuncData
 vB:Addr
 yb:FuncData
 fS:Addr
 fR:FuncData
 xF:Addr
 ku:FuncData
 vP:Addr
 vH:FuncData
 vc:Addr
 vf:FuncData
 xR:Addr
 xC:FuncData
 yP:Addr
 yY:FuncData
 vd:Addr
 vp:FuncData
 gK:Addr
 gQ:FuncData
 bY:Addr
 bZ:FuncData
 gX:Addr
 gZ:FuncData
 wI:Addr
 wL:FuncData
 kn:Addr
 kr:FuncData
 vE:Addr
 vS:FuncData
 pR:Addr
 pC:FuncData
 vA:Addr
 vT:FuncData
 vt:Addr
 vm:FuncData
 v7:Addr
 vN:FuncData
 v8:Addr
 vO:FuncData
 yf:Addr
 gi:FuncData
 vq:Addr
 wG:FuncData
 yG:Addr
 bt:FuncData
 kX:Addr
 vU:FuncData
 kK:Addr
 vR:FuncData
 xM:Addr
 vh:FuncData
 wO:Addr
 gS:FuncData
 wN:Addr
 gL:FuncData
 ym:Addr
 yp:FuncData
 bP:Addr
 bK:FuncData
 dZ:Addr
 du:FuncData
 fT:Addr
 fL:FuncData
 bH:Addr
 bJ:FuncData
 bB:Addr
 bX:FuncData
 uN:Addr
 uT:FuncData
 dQ:Addr
 dt:FuncData
 bG:Addr
 bQ:FuncData
 yR:Addr
 yU:FuncData
 bF:Addr
 bV:FuncData
 wz:Addr
 vI:FuncData
 da:Addr
 dc:FuncData
 de:Addr
 uS:FuncData
 Wz:Addr
 xt:Addr
 xp:Addr
 jo:Addr
 kM:Addr
 jQ:Addr
 kZ:Addr
 qH:Addr
 jF:Addr
 uv:Addr
 yg:Addr
 qA:Addr
 rL:Addr
 dY:Addr
noncomputable def gW:List Str:=["acts","any","be","by","calm","done","else","end","in","let","may","must","not","part","parties","rest","sore","to","whole"]
noncomputable def xo:List Str:=["calm","sore","end"]
noncomputable abbrev qO:Str:="abcdefghijklmnopqrstuvwxyz"
noncomputable abbrev vx:Str:="0123456789"
structure Txt (K:PySem.W.Frag) (mg:Str→Option Value) (t:jt):Prop where
 sW:wV K "rows_told" "Row.rows_told" jP ["self"] t.pj t.pz
 kP:wV K "__init__" "Clause.__init__" jN ["self","label","who","act"] t.qE t.xk
 xh:wV K "rows_told" "Clause.rows_told" qL ["self"] t.jl t.vX
 ip:wV K "tail" "Clause.tail" xw ["self"] t.mr t.mm
 sV:wV K "number" "Clause.number" jB ["self"] t.pq t.b9
 fM:wV K "__init__" "Duty.__init__" xZ ["self","label","who","act","turns","room"] t.kC t.yh
 cD:wV K "tail" "Duty.tail" xQ ["self"] t.gJ t.pD
 iu:wV K "number" "Duty.number" xy ["self"] t.ml t.md
 mR:wV K "tail" "Leave.tail" j9 ["self"] t.yH t.bo
 dw:wV K "__init__" "Ban.__init__" kq ["self","label","who","act","room"] t.vK t.y0
 rQ:wV K "tail" "Ban.tail" kj ["self"] t.bW t.mN
 br:wV K "__init__" "Power.__init__" xq ["self","label","who","act","room"] t.x9 t.vL
 mL:wV K "tail" "Power.tail" xj ["self"] t.yB t.ba
 dy:wV K "__init__" "Let.__init__" kx ["self","name","value"] t.wB t.y1
 gC:wV K "rows_told" "Let.rows_told" jr ["self"] t.ve t.ya
 vW:wV K "__init__" "Part.__init__" xX ["self","name","rooms","rows"] t.xA t.kD
 kF:wV K "rows_told" "Part.rows_told" jh ["self"] t.xU t.vz
 yN:wV K "first_row" "Part.first_row" jg ["self"] t.vj t.wH
 fD:wV K "__init__" "Pact.__init__" xJ ["self","parties","acts","rooms","whole"] t.vB t.yb
 jY:Def K mg "shown" vw ["pact"] t.fS t.fR
 xE:wV K "__init__" "NoText.__init__" jO ["self","row"] t.xF t.ku
 j4:Def K mg "is_name" xK ["word"] t.vP t.vH
 x5:Def K mg "number_of" jE ["word"] t.vc t.vf
 j0:Def K mg "written_with" q9 ["word","signs","most"] t.xR t.xC
 gm:Def K mg "names_of" xx ["row","word","most"] t.yP t.yY
 x4:Def K mg "are_names" je ["words","most"] t.vd t.vp
 bc:Def K mg "room_of" xW ["row"] t.gK t.gQ
 fY:Def K mg "let_of" ky ["row"] t.bY t.bZ
 bf:Def K mg "part_of" xV ["row"] t.gX t.gZ
 yl:Def K mg "clause_of" jI ["row"] t.wI t.wL
 qU:Def K mg "fits_form" ja ["words","form"] t.kn t.kr
 wQ:Def K mg "fits_place" jJ ["word","place"] t.vE t.vS
 gd:Def K mg "read" we ["text"] t.pR t.pC
 xH:Def K mg "read_names" jX ["rows","number","word","most","taken"] t.vA t.vT
 x6:Def K mg "told_once" jA ["names"] t.vt t.vm
 wJ:Def K mg "read_rooms" ju ["rows","taken"] t.v7 t.vN
 wX:Def K mg "read_whole" jK ["rows","start"] t.v8 t.vO
 cM:wV K "__init__" "Body.__init__" xa ["self"] t.yf t.gi
 kB:wV K "many_open" "Body.many_open" jy ["self"] t.vq t.wG
 mU:wV K "takes" "Body.takes" j8 ["self","row"] t.yG t.bt
 yn:wV K "takes_done" "Body.takes_done" jz ["self"] t.kX t.vU
 yo:wV K "takes_head" "Body.takes_head" jq ["self","head"] t.kK t.vR
 vD:wV K "takes_clause" "Body.takes_clause" qT ["self","clause"] t.xM t.vh
 yk:wV K "put_in" "Body.put_in" jT ["self","row"] t.wO t.gS
 gr:wV K "closed" "Body.closed" jS ["self"] t.wN t.gL
 j5:Def K mg "_law_cell_at" xY ["_law_script","_law_k"] t.ym t.yp
 xg:Def K mg "_law_mix" yM ["_law_cell","_law_k"] t.bP t.bK
 so:Def K mg "_law_name" wZ ["_law_cell","_law_k"] t.dZ t.du
 cP:Def K mg "_law_event" xI ["_law_names","_law_cell","_law_label","_law_depth"] t.fT t.fL
 yt:Def K mg "_law_events" kh ["_law_names","_law_script"] t.bH t.bJ
 fH:Def K mg "_law_header" kf ["_law_names","_law_cell"] t.bB t.bX
 ag:Def K mg "_law_row" yD ["_law_event_here"] t.uN t.uT
 fP:Def K mg "_law_rows" vi ["_law_header_here","_law_events_here"] t.dQ t.dt
 fG:Def K mg "_law_clause" kg ["_law_row_here"] t.bG t.bQ
 yC:Def K mg "_law_found" vy ["_law_rows_here"] t.yR t.yU
 fB:Def K mg "_law_object" km ["_law_event_here"] t.bF t.bV
 wK:Def K mg "_law_whole_part" jV ["_law_events_here"] t.wz t.vI
 sr:Def K mg "_law_made" wa ["_law_header_here","_law_events_here"] t.da t.dc
 KY:Def K mg "law" yq ["_law_script"] t.de t.uS
 yI:mg "list" = none
 vY:mg "len" = none
 gs:mg "range" = none
 ZG:mg "all" = none
 rK:mg "int" = none
 ZH:mg "str" = none
 jZ:mg "isinstance" = none
 JL:mg "bool" = none
 JS:mg "zip" = none
 nD:mg "ValueError" = none
 V9:mg "set" = none
 Xw:mg "KEPT" = some (.ref t.rL)
 tW:∃tk,mg "LETTERS" = some (.str "abcdefghijklmnopqrstuvwxyz" tk)
 tV:∃tk,mg "FIGURES" = some (.str "0123456789" tk)
 pN:∃tk,mg "MOST_LETTERS" = some (.int 8 tk)
 pT:∃tk,mg "MOST_FIGURES" = some (.int 20 tk)
 ZI:mg "MARKS" = some (.ref t.dY)
 bM:∃tk,mg "MOST_ROOMS" = some (.int 12 tk)
 pO:∃tk,mg "MOST_PARTIES" = some (.int 4 tk)
 uw:∃tk,mg "MOST_ACTS" = some (.int 6 tk)
 ug:∃tk,mg "MOST_ROWS" = some (.int 90 tk)
 uy:∃tk,mg "MOST_OPEN" = some (.int 6 tk)
 wq:∃tk,mg "FIRST_ROOM" = some (.int 2 tk)
 Gu:mg "Row" = some (.ref t.Wz)
 lx:mg "Clause" = some (.ref t.xt)
 oj:mg "Duty" = some (.ref t.xp)
 dS:mg "Leave" = some (.ref t.jo)
 Z6:mg "Ban" = some (.ref t.kM)
 u9:mg "Power" = some (.ref t.jQ)
 Z7:mg "Let" = some (.ref t.kZ)
 p9:mg "Part" = some (.ref t.qH)
 aR:mg "Pact" = some (.ref t.jF)
 iA:mg "PactError" = some (.ref t.uv)
 y7:mg "NoText" = some (.ref t.yg)
 Xt:mg "Body" = some (.ref t.qA)
 XY:∃(o:Obj) (its:Array Value) (n:Nat),K.lookup t.rL=some o∧o.cls=.type "tuple"∧o.data=.seq its n∧its.size≤sizeLine∧Vals (gW.map V.str) its.toList
 Qq:∃(o:Obj) (its:Array Value) (n:Nat),K.lookup t.dY=some o∧o.cls=.type "tuple"∧o.data=.seq its n∧its.size≤sizeLine∧Vals (xo.map V.str) its.toList
 tJ:uV K t.xt
 mY:qW K t.xt "act"
 pd:qW K t.xt "label"
 fz:qW K t.xt "room"
 pe:qW K t.xt "turns"
 mG:qW K t.xt "who"
 tL:Mk K t.xt t.qE
 ZF:uV K t.xp
 ui:qW K t.xp "act"
 mH:qW K t.xp "label"
 d6:qW K t.xp "room"
 mB:qW K t.xp "turns"
 ue:qW K t.xp "who"
 rq:Mk K t.xp t.kC
 dE:Meth K t.xp "tail" t.gJ
 gY:Meth K t.xp "rows_told" t.jl
 iJ:uV K t.jo
 d7:qW K t.jo "act"
 fq:qW K t.jo "label"
 mP:qW K t.jo "room"
 fj:qW K t.jo "turns"
 d8:qW K t.jo "who"
 mV:Meth K t.jo "tail" t.yH
 dO:Mk K t.jo t.qE
 gq:Meth K t.jo "rows_told" t.jl
 JI:uV K t.kM
 lg:qW K t.kM "act"
 dA:qW K t.kM "label"
 uo:qW K t.kM "room"
 d0:qW K t.kM "turns"
 lZ:qW K t.kM "who"
 ow:Mk K t.kM t.vK
 ur:Meth K t.kM "tail" t.bW
 hU:Meth K t.kM "rows_told" t.jl
 iX:uV K t.jQ
 d9:qW K t.jQ "act"
 fg:qW K t.jQ "label"
 mM:qW K t.jQ "room"
 fh:qW K t.jQ "turns"
 cz:qW K t.jQ "who"
 dI:Mk K t.jQ t.x9
 mW:Meth K t.jQ "tail" t.yB
 gj:Meth K t.jQ "rows_told" t.jl
 mT:uV K t.kZ
 fk:qW K t.kZ "name"
 bC:qW K t.kZ "value"
 aO:Mk K t.kZ t.wB
 bz:Meth K t.kZ "rows_told" t.ve
 kJ:uV K t.qH
 wg:qW K t.qH "name"
 yz:qW K t.qH "rooms"
 bR:qW K t.qH "rows"
 bD:Mk K t.qH t.xA
 wy:Meth K t.qH "rows_told" t.xU
 gG:Meth K t.qH "first_row" t.vj
 yW:uV K t.jF
 bU:qW K t.jF "acts"
 yQ:qW K t.jF "parties"
 gT:qW K t.jF "rooms"
 gN:qW K t.jF "whole"
 oy:Mk K t.jF t.vB
 jM:uV K t.qA
 kR:qW K t.qA "bodies"
 wA:qW K t.qA "heads"
 gk:qW K t.qA "labels"
 Z8:Mk K t.qA t.yf
 kY:Meth K t.qA "many_open" t.vq
 mK:Meth K t.qA "takes" t.yG
 y9:Meth K t.qA "takes_done" t.kX
 gz:Meth K t.qA "takes_head" t.kK
 yc:Meth K t.qA "takes_clause" t.xM
 wx:Meth K t.qA "put_in" t.wO
 y8:Meth K t.qA "closed" t.wN
 nY:V8 K t.yg
 vM:HK K t.yg t.xF
 mF:qW K t.yg "row"
 cR:JH K t.xt "__init__" t.qE
 iV:JH K t.jo "__init__" t.qE
 dG:PySem.W.kitOne K (.ref t.xp) (.ref t.xp)=some true
 mZ:PySem.W.kitOne K (.ref t.jo) (.ref t.xp)=some false
 p3:PySem.W.kitOne K (.ref t.jo) (.ref t.jo)=some true
 dB:PySem.W.kitOne K (.ref t.jo) (.ref t.kM)=some false
 p5:PySem.W.kitOne K (.ref t.jo) (.ref t.jQ)=some false
 uh:PySem.W.kitOne K (.ref t.kM) (.ref t.xp)=some false
 rS:PySem.W.kitOne K (.ref t.kM) (.ref t.kM)=some true
 mJ:PySem.W.kitOne K (.ref t.jQ) (.ref t.xp)=some false
 dM:PySem.W.kitOne K (.ref t.jQ) (.ref t.kM)=some false
 p7:PySem.W.kitOne K (.ref t.jQ) (.ref t.jQ)=some true
 dH:PySem.W.kitOne K (.ref t.xp) (.ref t.qH)=some false
 uf:PySem.W.kitOne K (.ref t.xp) (.ref t.kZ)=some false
 mQ:PySem.W.kitOne K (.ref t.jo) (.ref t.qH)=some false
 dP:PySem.W.kitOne K (.ref t.jo) (.ref t.kZ)=some false
 ub:PySem.W.kitOne K (.ref t.kM) (.ref t.qH)=some false
 rT:PySem.W.kitOne K (.ref t.kM) (.ref t.kZ)=some false
 mX:PySem.W.kitOne K (.ref t.jQ) (.ref t.qH)=some false
 dD:PySem.W.kitOne K (.ref t.jQ) (.ref t.kZ)=some false
 um:PySem.W.kitOne K (.ref t.kZ) (.ref t.qH)=some false
 rN:PySem.W.kitOne K (.ref t.kZ) (.ref t.kZ)=some true
 dF:PySem.W.kitOne K (.ref t.qH) (.ref t.qH)=some true
 ud:PySem.W.kitOne K (.type "int") (.type "bool")=some false
 om:PySem.W.specialIn K (.builtin "object.__class__") "__get__" = some (some (.builtin "getset_descriptor.__get__"))
 Qj:PySem.W.takesIn K (.builtin "object.__class__")=some true
 nX:PySem.W.findIn K (.ref t.xt) "__class__" = some (some (.builtin "object.__class__"))∧PySem.W.mroIn K t.xt (.type "object")=some true
 Qi:PySem.W.findIn K (.ref t.xp) "__class__" = some (some (.builtin "object.__class__"))∧PySem.W.mroIn K t.xp (.type "object")=some true
 av:PySem.W.findIn K (.ref t.jo) "__class__" = some (some (.builtin "object.__class__"))∧PySem.W.mroIn K t.jo (.type "object")=some true
 KZ:PySem.W.findIn K (.ref t.kM) "__class__" = some (some (.builtin "object.__class__"))∧PySem.W.mroIn K t.kM (.type "object")=some true
 ay:PySem.W.findIn K (.ref t.jQ) "__class__" = some (some (.builtin "object.__class__"))∧PySem.W.mroIn K t.jQ (.type "object")=some true
 Zo:PySem.W.findIn K (.ref t.kZ) "__class__" = some (some (.builtin "object.__class__"))∧PySem.W.mroIn K t.kZ (.type "object")=some true
 ik:PySem.W.findIn K (.ref t.qH) "__class__" = some (some (.builtin "object.__class__"))∧PySem.W.mroIn K t.qH (.type "object")=some true
section
variable {P:Program} {w:World} {K:PySem.W.Frag} {mg:Str→Option Value} {base:Heap} {t:jt}
end
structure Good (N:Nat) (x:Str):Prop where
 lo:1≤x.length
 hi:x.length≤N
 as:asc x
structure CF (K:PySem.W.Frag) (C fI:Addr):Prop where
 cl:uV K C
 nl:qW K C "label"
 nw:qW K C "who"
 na:qW K C "act"
 nt:qW K C "turns"
 nr:qW K C "room"
 Fy:Mk K C fI
noncomputable def f3 (l w a:Str):List (Str × V):=[("label",.str l),("who",.str w),("act",.str a)]
noncomputable def f4 (l w a r:Str):List (Str × V):=[("label",.str l),("who",.str w),("act",.str a),("room",.str r)]
noncomputable def f5 (l w a:Str) (n:Int) (r:Str):List (Str × V):=[("label",.str l),("who",.str w),("act",.str a),("turns",.int n),("room",.str r)]
theorem n1:¬(("label" : Str) = "who"):=by decide +kernel
theorem n2:¬(("label" : Str) = "act"):=by decide +kernel
theorem n3:¬(("who" : Str) = "act"):=by decide +kernel
theorem n4:¬(("label" : Str) = "room"):=by decide +kernel
theorem n5:¬(("who" : Str) = "room"):=by decide +kernel
theorem n6:¬(("act" : Str) = "room"):=by decide +kernel
theorem n7:¬(("label" : Str) = "turns"):=by decide +kernel
theorem n8:¬(("who" : Str) = "turns"):=by decide +kernel
theorem n9:¬(("act" : Str) = "turns"):=by decide +kernel
theorem BF:¬(("turns" : Str) = "room"):=by decide +kernel
theorem put3 (l w a:Str):qM "act" (.str a) (qM "who" (.str w) (qM "label" (.str l) []))=f3 l w a:=by
 simp only[qM,f3,if_neg n1,if_neg n2,if_neg n3]
theorem GX (l w a r:Str):qM "room" (.str r) (f3 l w a)=f4 l w a r:=by
 simp only[qM,f3,f4,if_neg n4,if_neg n5,if_neg n6]
theorem Bj (l w a:Str) (n:Int) (r:Str):qM "room" (.str r) (qM "turns" (.int n) (f3 l w a))=f5 l w a n r:=by
 simp only[qM,f3,f5,if_neg n7,if_neg n8,if_neg n9,if_neg n4,if_neg n5,if_neg n6,if_neg BF]
noncomputable def uG (k:Int) (l w a:Str) (n:Int) (r:Str):List (Str × V):=if k=0 then f5 l w a n r else if k=2∨k=3 then f4 l w a r else f3 l w a
theorem qI {x:Str} {v:V} {r:List (Str × V)}:List.lookup x ((x,v) :: r)=some v:=by simp [List.lookup]
theorem qp {x y:Str} {v:V} {r:List (Str × V)} (h:¬(x=y)):List.lookup x ((y,v) :: r)=List.lookup x r:=by
 have:(x == y)=false:=beq_eq_false_iff_ne.mpr h
 simp [List.lookup,this]
theorem aH (k:Int) (l w a:Str) (n:Int) (r:Str):(uG k l w a n r).lookup ("label" : Str)=some (.str l):=by
 unfold uG;split
 ·exact qI
 ·split<;>exact qI
theorem Xx (k:Int) (l w a:Str) (n:Int) (r:Str):(uG k l w a n r).lookup ("who" : Str)=some (.str w):=by
 have h:=fun q=>n1 (Eq.symm q)
 unfold uG;split
 ·exact(qp h).trans qI
 ·split<;>exact(qp h).trans qI
theorem Xj (k:Int) (l w a:Str) (n:Int) (r:Str):(uG k l w a n r).lookup ("act" : Str)=some (.str a):=by
 have h1:=fun q=>n2 (Eq.symm q)
 have h2:=fun q=>n3 (Eq.symm q)
 unfold uG;split
 ·exact(qp h1).trans ((qp h2).trans qI)
 ·split<;>exact(qp h1).trans ((qp h2).trans qI)
theorem aB (l w a:Str) (n:Int) (r:Str):(uG 0 l w a n r).lookup ("turns" : Str)=some (.int n):=
 (qp fun q=>n7 (Eq.symm q)).trans ((qp fun q=>n8 (Eq.symm q)).trans ((qp fun q=>n9 (Eq.symm q)).trans qI))
theorem QU {k:Int} (hk:k=0∨k=2∨k=3) (l w a:Str) (n:Int) (r:Str):(uG k l w a n r).lookup ("room" : Str)=some (.str r):=by
 have h1:=fun q=>n4 (Eq.symm q)
 have h2:=fun q=>n5 (Eq.symm q)
 have h3:=fun q=>n6 (Eq.symm q)
 have h4:=fun q=>BF (Eq.symm q)
 unfold uG
 by_cases h0:k=0
 ·rw[if_pos h0]
  exact(qp h1).trans ((qp h2).trans ((qp h3).trans ((qp h4).trans qI)))
 ·rw[if_neg h0,if_pos (hk.resolve_left h0)]
  exact(qp h1).trans ((qp h2).trans ((qp h3).trans qI))
theorem Vg {m:Str} (k:Int) (l w a:Str) (n:Int) (r:Str) (h:m∉(["label","who","act","turns","room"]:List Str)):(uG k l w a n r).lookup m=none:=by
 simp only[List.mem_cons,not_or] at h
 obtain⟨h1,h2,h3,h4,h5,_⟩:=h
 unfold uG;split
 ·exact(qp h1).trans ((qp h2).trans ((qp h3).trans ((qp h4).trans ((qp h5).trans rfl))))
 ·split
  ·exact(qp h1).trans ((qp h2).trans ((qp h3).trans ((qp h5).trans rfl)))
  ·exact(qp h1).trans ((qp h2).trans ((qp h3).trans rfl))
noncomputable def yA (t:jt) (k:Int):Addr:=if k=0 then t.xp else if k=1 then t.jo else if k=2 then t.kM else if k=3 then t.jQ else t.xt
noncomputable def At (t:jt) (H:Hp) (p:Addr) (k:Int) (l w a:Str) (n:Int) (r:Str):Prop:=∃dx,H p=some (.ins (yA t k) dx (uG k l w a n r))
noncomputable def Jt (K:PySem.W.Frag):Sp:=fun vs H Q _=>∃(p C dx fI:Addr) (l w a:Str),vs=[.ref p,.str l,.str w,.str a]∧CF K C fI∧H p=some (.ins C dx [])∧Q .non (upd H p (.ins C dx (f3 l w a)))
noncomputable def Jn (K:PySem.W.Frag):Sp:=fun vs H Q _=>∃(p C dx fI:Addr) (l w a r:Str),vs=[.ref p,.str l,.str w,.str a,.str r]∧CF K C fI∧H p=some (.ins C dx [])∧Q .non (upd H p (.ins C dx (f4 l w a r)))
noncomputable def YZ (K:PySem.W.Frag):Sp:=fun vs H Q _=>∃(p C dx fI:Addr) (l w a:Str) (n:Int) (r:Str),vs=[.ref p,.str l,.str w,.str a,.int n,.str r]∧CF K C fI∧H p=some (.ins C dx [])∧Q .non (upd H p (.ins C dx (f5 l w a n r)))
theorem nS {K:PySem.W.Frag} {mg:Str→Option Value} {t:jt} (T:Txt K mg t):CF K t.xp t.kC:=⟨T.ZF,T.mH,T.ue,T.ui,T.mB,T.d6,T.rq⟩
theorem rV {K:PySem.W.Frag} {mg:Str→Option Value} {t:jt} (T:Txt K mg t):CF K t.jo t.qE:=⟨T.iJ,T.fq,T.d8,T.d7,T.fj,T.mP,T.dO⟩
theorem aQ {K:PySem.W.Frag} {mg:Str→Option Value} {t:jt} (T:Txt K mg t):CF K t.kM t.vK:=⟨T.JI,T.dA,T.lZ,T.lg,T.d0,T.uo,T.ow⟩
theorem rW {K:PySem.W.Frag} {mg:Str→Option Value} {t:jt} (T:Txt K mg t):CF K t.jQ t.x9:=⟨T.iX,T.fg,T.cz,T.d9,T.fh,T.mM,T.dI⟩
theorem QG {K:PySem.W.Frag} {mg:Str→Option Value} {t:jt} (T:Txt K mg t):CF K t.xt t.qE:=⟨T.tJ,T.pd,T.mG,T.mY,T.pe,T.fz,T.tL⟩
theorem rY {K:PySem.W.Frag} {mg:Str→Option Value} {t:jt} (T:Txt K mg t) (k:Int):∃fI,CF K (yA t k) fI:=by
 unfold yA
 split
 ·exact⟨_,nS T⟩
 split
 ·exact⟨_,rV T⟩
 split
 ·exact⟨_,aQ T⟩
 split
 ·exact⟨_,rW T⟩
 ·exact⟨_,QG T⟩
section
variable {K:PySem.W.Frag} {mg:Str→Option Value} {t:jt} {H:Hp} {p:Addr} {k:Int} {l w a:Str} {n:Int} {r:Str} {Q:VK}
theorem At.fl (T:Txt K mg t) (h:At t H p k l w a n r):tf K H (.ref p) "label" (.str l):=by
 obtain⟨dx,e⟩:=h
 obtain⟨fI,F⟩:=rY T k
 exact⟨p,_,dx,_,rfl,e,F.cl,F.nl,aH _ _ _ _ _ _⟩
theorem At.fw (T:Txt K mg t) (h:At t H p k l w a n r):tf K H (.ref p) "who" (.str w):=by
 obtain⟨dx,e⟩:=h
 obtain⟨fI,F⟩:=rY T k
 exact⟨p,_,dx,_,rfl,e,F.cl,F.nw,Xx _ _ _ _ _ _⟩
theorem At.fa (T:Txt K mg t) (h:At t H p k l w a n r):tf K H (.ref p) "act" (.str a):=by
 obtain⟨dx,e⟩:=h
 obtain⟨fI,F⟩:=rY T k
 exact⟨p,_,dx,_,rfl,e,F.cl,F.na,Xj _ _ _ _ _ _⟩
theorem At.ft (T:Txt K mg t) (h:At t H p 0 l w a n r):tf K H (.ref p) "turns" (.int n):=by
 obtain⟨dx,e⟩:=h
 obtain⟨fI,F⟩:=rY T 0
 exact⟨p,_,dx,_,rfl,e,F.cl,F.nt,aB _ _ _ _ _⟩
theorem At.fr (T:Txt K mg t) (h:At t H p k l w a n r) (hk:k=0∨k=2∨k=3):tf K H (.ref p) "room" (.str r):=by
 obtain⟨dx,e⟩:=h
 obtain⟨fI,F⟩:=rY T k
 exact⟨p,_,dx,_,rfl,e,F.cl,F.nr,QU hk _ _ _ _ _⟩
theorem At.me (T:Txt K mg t) (h:At t H p k l w a n r) {m:Str} (hm:m∉(["label","who","act","turns","room"]:List Str)):∃dx fs,H p=some (.ins (yA t k) dx fs)∧uV K (yA t k)∧fs.lookup m=none:=by
 obtain⟨dx,e⟩:=h
 obtain⟨fI,F⟩:=rY T k
 exact⟨dx,_,e,F.cl,Vg _ _ _ _ _ _ hm⟩
end
section
variable {P:Program} {w:World} {K:PySem.W.Frag} {mg:Str→Option Value} {base:Heap} {t:jt}
theorem lT:qo ["self","label","who","act"] ["self","label","who","act"] (z4 jN):=⟨rfl,rfl,rfl,by decide +kernel,rfl,by decide +kernel,by decide +kernel⟩
set_option maxHeartbeats 400000 in
theorem kS (T:Txt K mg t):qi P w K mg base jk 1 t.qE t.xk ["self","label","who","act"] (Jt K):=by
 refine T.kP.fn.ok lT (fun vs H Q E h=>(by obtain⟨_,_,_,_,_,_,_,rfl,_⟩:=h;rfl)) (fun cdv A outer s H vs Q E hr h=>?_)
 obtain⟨p,C,dx,fI,l,w,a,rfl,F,hp,k⟩:=h
 refine⟨_,(z6 (kz (pv 0) (pv 1) rfl)
   (z6 (kz (pv 0) (pv 2) rfl)
   (z8 (kz (pv 0) (pv 3) rfl)))),?_⟩
 refine⟨_,rfl,_,rfl,p,C,dx,[],rfl,hp,F.cl,F.nl,(by show 0 < 1000;decide),?_⟩
 refine⟨_,rfl,_,rfl,p,C,dx,_,rfl,qx,F.cl,F.nw,(by show 1 < 1000;decide),?_⟩
 refine⟨_,rfl,_,rfl,p,C,dx,_,rfl,qx,F.cl,F.na,?_,?_⟩
 ·have:=x3 ("who" : Str) (.str w) (qM "label" (.str l) [])
  have e:(qM ("label" : Str) (.str l) []).length=1:=rfl
  omega
 ·rw[gM,gM,put3]
  exact k
theorem oF:qo ["self","label","who","act","turns","room"] ["self","label","who","act","turns","room"] (z4 xZ):=⟨rfl,rfl,rfl,by decide +kernel,rfl,by decide +kernel,by decide +kernel⟩
set_option maxHeartbeats 400000 in
theorem cv (T:Txt K mg t):qi P w K mg base jk 2 t.kC t.yh ["self","label","who","act","turns","room"] (YZ K):=by
 have G_Clause_init:qi P w K mg base jk 1 t.qE t.xk ["self","label","who","act"] (Jt K):=(kS T).mono (by decide)
 refine T.fM.fn.ok oF (fun vs H Q E h=>(by obtain⟨_,_,_,_,_,_,_,_,_,rfl,_⟩:=h;rfl)) (fun cdv A outer s H vs Q E hr h=>?_)
 obtain⟨p,C,dx,fI,l,w,a,n,r,rfl,F,hp,k⟩:=h
 refine⟨_,(z6 (q0 (lF rfl T.lx T.cR G_Clause_init hr T.kP.bd .nil qQ (z0 (pv 0) (z0 (pv 1) (z0 (pv 2) (z0 (pv 3) z5))))))
   (z6 (kz (pv 0) (pv 4) rfl)
   (z8 (kz (pv 0) (pv 5) rfl)))),?_⟩
 refine⟨_,rfl,_,rfl,_,rfl,_,rfl,p,C,dx,fI,l,w,a,rfl,F,hp,?_⟩
 refine⟨_,rfl,_,rfl,p,C,dx,_,rfl,qx,F.cl,F.nt,(by show 3 < 1000;decide),?_⟩
 refine⟨_,rfl,_,rfl,p,C,dx,_,rfl,qx,F.cl,F.nr,?_,?_⟩
 ·have:=x3 ("turns" : Str) (.int n) (f3 l w a)
  have e:(f3 l w a).length=3:=rfl
  omega
 ·rw[gM,gM,Bj]
  exact k
theorem eP:qo ["self","label","who","act","room"] ["self","label","who","act","room"] (z4 kq):=⟨rfl,rfl,rfl,by decide +kernel,rfl,by decide +kernel,by decide +kernel⟩
set_option maxHeartbeats 400000 in
theorem uZ (T:Txt K mg t):qi P w K mg base jk 2 t.vK t.y0 ["self","label","who","act","room"] (Jn K):=by
 have G_Clause_init:qi P w K mg base jk 1 t.qE t.xk ["self","label","who","act"] (Jt K):=(kS T).mono (by decide)
 refine T.dw.fn.ok eP (fun vs H Q E h=>(by obtain⟨_,_,_,_,_,_,_,_,rfl,_⟩:=h;rfl)) (fun cdv A outer s H vs Q E hr h=>?_)
 obtain⟨p,C,dx,fI,l,w,a,r,rfl,F,hp,k⟩:=h
 refine⟨_,(z6 (q0 (lF rfl T.lx T.cR G_Clause_init hr T.kP.bd .nil qQ (z0 (pv 0) (z0 (pv 1) (z0 (pv 2) (z0 (pv 3) z5))))))
   (z8 (kz (pv 0) (pv 4) rfl))),?_⟩
 refine⟨_,rfl,_,rfl,_,rfl,_,rfl,p,C,dx,fI,l,w,a,rfl,F,hp,?_⟩
 refine⟨_,rfl,_,rfl,p,C,dx,_,rfl,qx,F.cl,F.nr,(by show 3 < 1000;decide),?_⟩
 rw[gM,GX]
 exact k
theorem sN:qo ["self","label","who","act","room"] ["self","label","who","act","room"] (z4 xq):=⟨rfl,rfl,rfl,by decide +kernel,rfl,by decide +kernel,by decide +kernel⟩
set_option maxHeartbeats 400000 in
theorem mD (T:Txt K mg t):qi P w K mg base jk 2 t.x9 t.vL ["self","label","who","act","room"] (Jn K):=by
 have G_Clause_init:qi P w K mg base jk 1 t.qE t.xk ["self","label","who","act"] (Jt K):=(kS T).mono (by decide)
 refine T.br.fn.ok sN (fun vs H Q E h=>(by obtain⟨_,_,_,_,_,_,_,_,rfl,_⟩:=h;rfl)) (fun cdv A outer s H vs Q E hr h=>?_)
 obtain⟨p,C,dx,fI,l,w,a,r,rfl,F,hp,k⟩:=h
 refine⟨_,(z6 (q0 (lF rfl T.dS T.iV G_Clause_init hr T.kP.bd .nil qQ (z0 (pv 0) (z0 (pv 1) (z0 (pv 2) (z0 (pv 3) z5))))))
   (z8 (kz (pv 0) (pv 4) rfl))),?_⟩
 refine⟨_,rfl,_,rfl,_,rfl,_,rfl,p,C,dx,fI,l,w,a,rfl,F,hp,?_⟩
 refine⟨_,rfl,_,rfl,p,C,dx,_,rfl,qx,F.cl,F.nr,(by show 3 < 1000;decide),?_⟩
 rw[gM,GX]
 exact k
theorem ko {H:Hp} {x dx:Addr} {o o':HO} (hx:H x=none) (hdx:H dx=none) (hne:dx≠x):qk H (upd (upd (upd H dx (.own x)) x o) x o'):=by
 rw[gM]
 exact(qk.og hdx).new (by rw[qB (Ne.symm hne)];exact hx)
end
theorem ZL:vx.length=10∧vx.cps.toList=[48,49,50,51,52,53,54,55,56,57]:=by decide +kernel
theorem Z5:qO.length=26∧qO.cps.toList.length=26∧∀c∈qO.cps.toList,c < 128:=by decide +kernel
noncomputable def has (z:Str) (c:Nat):Bool:=!(Builtin.Str.occurrences z ⟨#[c]⟩ 0 z.length 1).isEmpty
noncomputable def pV (x z:Str) (m:Int):Bool:=decide (1≤x.length) && decide ((x.length:Int)≤m) && x.cps.toList.all (has z)
noncomputable def qK (x:Str):Bool:=pV x qO 8 && !Vp (.str x) (gW.map V.str)
theorem QO:(gW.map V.str).all mi=true:=by decide +kernel
theorem iM (c:Nat):has vx c=decide (48≤c∧c≤57):=by
 unfold has
 rw[StrLaws.found_one,ZL.2]
 by_cases h:48≤c∧c≤57
 ·rw[decide_eq_true h]
  simp
  omega
 ·rw[decide_eq_false h]
  simp
  omega
noncomputable def bL (x:Str):Int:=if pV x vx 20=true∧x.cps.toList.head?≠some 48 then ((PySem.NumText.digitsVal x.cps.toList:Nat):Int) else 0
noncomputable def Zr:Sp:=fun vs H Q _=>∃(x z:Str) (m:Int),vs=[.str x,.str z,.int m]∧x.length≤400∧z.length≤100∧∀H',qk H H'→Q (.bl (pV x z m)) H'
noncomputable def iz:Sp:=fun vs H Q _=>∃(x:Str),vs=[.str x]∧x.length≤400∧∀H',qk H H'→Q (.bl (qK x)) H'
noncomputable def Ks:Sp:=fun vs H Q _=>∃(x:Str),vs=[.str x]∧x.length≤400∧∀H',qk H H'→Q (.int (bL x)) H'
theorem JD {x z:Str} {bs:List Bool} (hl:bs.length=x.length) (h:∀(i:Nat) (c:Nat) (b:Bool),x.cps.toList[i]?=some c→bs[i]?=some b→b=has z c):bs.all id=x.cps.toList.all (has z):=by
 have e:bs=x.cps.toList.map (has z):=by
  apply List.ext_getElem?
  intro i
  rw[List.getElem?_map]
  cases q:x.cps.toList[i]? with
  | none=>
   have:x.cps.toList.length≤i:=List.getElem?_eq_none_iff.mp q
   exact List.getElem?_eq_none_iff.mpr (by rw[hl];simpa [Str.length] using this)
  | some c=>
   have hi:i < bs.length:=by
    rw[hl]
    have:=(List.getElem?_eq_some_iff.mp q).1
    simpa [Str.length] using this
   rw[List.getElem?_eq_getElem hi,Option.map_some,h i c _ q (List.getElem?_eq_getElem hi)]
 rw[e,List.all_map]
 rfl
theorem uK {x:Str} {m:Int} (h:pV x vx m=true):1≤x.length∧(x.length:Int)≤m∧PySem.NumText.AllDigits x.cps.toList:=by
 unfold pV at h
 rw[Bool.and_eq_true,Bool.and_eq_true] at h
 obtain⟨⟨h1,h2⟩,h3⟩:=h
 refine⟨of_decide_eq_true h1,of_decide_eq_true h2,fun c hc=>?_⟩
 have:=List.all_eq_true.mp h3 c hc
 rw[iM] at this
 exact of_decide_eq_true this
theorem iP {x:Str} (h:1≤x.length):∃c,x.cps.toList.head?=some c∧sG x.cps.toList 0=some c:=by
 have hl:0 < x.cps.toList.length:=by have h':1≤x.cps.size:=h;rw[Array.length_toList];omega
 cases e:x.cps.toList with
 | nil=>rw[e] at hl;simp at hl
 | cons c r=>exact⟨c,rfl,nM (xs:=c :: r) (j:=0) (v:=c) rfl⟩
theorem Yz (c d:Nat):decide (V.str ⟨#[c]⟩=V.str ⟨#[d]⟩)=decide (c=d):=by
 by_cases h:c=d
 ·subst h;simp
 ·have:¬(V.str ⟨#[c]⟩=V.str ⟨#[d]⟩):=fun q=>h (by injection q with q;injection q with q;simpa using q)
  rw[decide_eq_false this,decide_eq_false h]
theorem KS:("0" : Str)=⟨#[48]⟩:=by decide +kernel
section
variable {P:Program} {w:World} {K:PySem.W.Frag} {mg:Str→Option Value} {base:Heap} {t:jt}
theorem Vc (T:Txt K mg t) (H:Hp):yy K H t.rL (gW.map V.str):=.inr T.XY
theorem cW:qo ["word","signs","most"] ["word","signs","most"] (z4 q9):=⟨rfl,rfl,rfl,by decide +kernel,rfl,by decide +kernel,by decide +kernel⟩
set_option maxHeartbeats 400000 in
theorem gH (T:Txt K mg t):qi P w K mg base jk 1 t.xR t.xC ["word","signs","most"] Zr:=by
 refine T.j0.fn.ok cW (fun vs H Q E h=>(by obtain⟨_,_,_,rfl,_⟩:=h;rfl)) (fun cdv A outer s H vs Q E hr h=>?_)
 obtain⟨x,z,m,rfl,hx,hz,k⟩:=h
 refine⟨_,(z6 (qP (PW.pt (gp (ql nj (qC df rfl T.vY PySem.boot_len (z0 (pv 0) z5)) z7 (qe _)) (wC (ql en (qC df rfl T.vY PySem.boot_len (z0 (pv 0) z5)) (pv 2) (qe _)))))
    (z8 (qw gB)) qr)
   (z8 (qw (qC (gR rfl) rfl T.ZG PyProof.Rows.boot_all (z0 (cm (osc:=z4 q9) (N:=["word","signs","most"]) (names:=["signs"]) (qN:=[1]) rfl rfl rfl ⟨rfl,by decide +kernel,by decide +kernel,by decide +kernel,rfl,rfl,by decide +kernel,by decide +kernel⟩ (Yp (pv 0)) (fun _ _ _=>(va Jk (pv 0) (pv 1) rfl))) z5))))),?_⟩
 refine⟨_,rfl,x,rfl,qj (by omega),_,_,rfl,rfl,_,rfl,?_⟩
 refine jH (fun h1=>mE ?_) (fun h1=>?_)
 ·have e:pV x z m=false:=by
   have:¬(1≤x.length):=by have:=of_decide_eq_true h1;omega
   simp [pV,this]
  have:=k H (qk.refl H)
  rw[e] at this
  exact this
 refine⟨_,rfl,x,rfl,qj (by omega),_,rfl,_,_,rfl,rfl,_,rfl,?_⟩
 refine jH (fun h2=>?_) (fun h2=>?_)
 ·have e:pV x z m=false:=by
   have:¬((x.length:Int)≤m):=by have:=of_decide_eq_true h2;omega
   simp [pV,this]
  have:=k H (qk.refl H)
  rw[e] at this
  exact this
 have e1:1≤x.length:=by have:¬((x.length:Int) < 1):=fun q=>h1 (decide_eq_true q);omega
 have e2:(x.length:Int)≤m:=by have:¬(m < (x.length:Int)):=fun q=>h2 (decide_eq_true q);omega
 refine⟨_,rfl,x,rfl,gA (Kw (z:=x)) (fun _ y v=>∀c,y=.str ⟨#[c]⟩→v=.bl (has z c)) (qj (by simp [Str.length] at hx ⊢;omega)) ?_ ?_⟩
 ·intro i y H' Q' hy s' kk
  rw[List.getElem?_map] at hy
  cases q:x.cps.toList[i]? with
  | none=>rw[q] at hy;cases hy
  | some c=>
   rw[q] at hy
   cases hy
   refine⟨_,rfl,_,rfl,_,_,rfl,rfl,kk _ _ (qk.refl _) fun c' e=>?_⟩
   have:c=c':=by simpa using e
   subst this
   rfl
 ·intro D H' ys s' hD hy hlen hp
  have hlen':ys.length=x.length:=by simpa [Str.length] using hlen
  obtain⟨bs,rfl⟩:=nC ys fun v hv=>by
   obtain⟨i,hi,e⟩:=List.getElem_of_mem hv
   have hix:i < x.cps.toList.length:=by rw[hlen'] at hi;simpa [Str.length] using hi
   exact⟨_,hp i _ v (by rw[List.getElem?_map,List.getElem?_eq_getElem hix];rfl) (by rw[List.getElem?_eq_getElem hi,e]) _ rfl⟩
  refine⟨D,bs,rfl,qD.of hy,?_⟩
  have e3:bs.all id=x.cps.toList.all (has z):=JD (by simpa using hlen') fun i c b q1 q2=>by
   have:=hp i (.str ⟨#[c]⟩) (.bl b) (by rw[List.getElem?_map,q1];rfl) (by rw[List.getElem?_map,q2];rfl) c rfl
   simpa using this
  have:=k H' s'
  rw[show pV x z m=bs.all id by rw[e3];simp [pV,e1,e2]] at this
  exact this
theorem oS:qo ["word"] ["word"] (z4 xK):=⟨rfl,rfl,rfl,by decide +kernel,rfl,by decide +kernel,by decide +kernel⟩
set_option maxHeartbeats 400000 in
theorem bT (T:Txt K mg t):qi P w K mg base jk 2 t.vP t.vH ["word"] iz:=by
 have G_v_written_with:qi P w K mg base jk 1 t.xR t.xC ["word","signs","most"] Zr:=(gH T).mono (by decide)
 refine T.j4.fn.ok oS (fun vs H Q E h=>(by obtain⟨_,rfl,_⟩:=h;rfl)) (fun cdv A outer s H vs Q E hr h=>?_)
 obtain⟨x,rfl,hx,k⟩:=h
 refine⟨_,(z8 (qw (Zx (qm G_v_written_with hr rfl T.j0.mg T.j0.fn.kp T.j0.bd .nil qQ (z0 (pv 0) (z0 (jD rfl (T.tW).choose_spec (v:=.str qO) ⟨_,rfl⟩) (z0 (jD rfl (T.pN).choose_spec (v:=.int 8) ⟨_,rfl⟩) z5)))) (oK (va (nz (K:=K) rfl) (pv 0) (jD rfl T.Xw (v:=.ref t.rL) rfl) rfl))))),?_⟩
 refine⟨_,rfl,x,qO,8,rfl,hx,by decide +kernel,fun H' s'=>⟨_,rfl,?_⟩⟩
 refine jH (fun h1=>?_) (fun h1=>?_)
 ·refine⟨_,rfl,_,_,rfl,.inr (Vc T H'),rfl,QO,?_⟩
  have:=k H' s'
  rw[show qK x = !Vp (.str x) (gW.map V.str) by simp [qK,h1]] at this
  exact this
 ·have:=k H' s'
  rw[show qK x=false by simp [qK,h1]] at this
  exact this
theorem lE:qo ["word"] ["word"] (z4 jE):=⟨rfl,rfl,rfl,by decide +kernel,rfl,by decide +kernel,by decide +kernel⟩
set_option maxHeartbeats 400000 in
theorem fu (T:Txt K mg t):qi P w K mg base jk 2 t.vc t.vf ["word"] Ks:=by
 have G_v_written_with:qi P w K mg base jk 1 t.xR t.xC ["word","signs","most"] Zr:=(gH T).mono (by decide)
 refine T.x5.fn.ok lE (fun vs H Q E h=>(by obtain⟨_,rfl,_⟩:=h;rfl)) (fun cdv A outer s H vs Q E hr h=>?_)
 obtain⟨x,rfl,hx,k⟩:=h
 refine⟨_,(z6 (qP (PW.pt (gp (yX (xu (qm G_v_written_with hr rfl T.j0.mg T.j0.fn.kp T.j0.bd .nil qQ (z0 (pv 0) (z0 (jD rfl (T.tV).choose_spec (v:=.str vx) ⟨_,rfl⟩) (z0 (jD rfl (T.pT).choose_spec (v:=.int 20) ⟨_,rfl⟩) z5)))))) (wC (ql jd (qy pE (pv 0) z7 (fun _ _=>rfl)) qq (qe _)))))
    (z8 (qw z7)) qr)
   (z8 (qw (jn sH rfl T.rK PyProof.Rows.boot_int (z0 (pv 0) z5))))),?_⟩
 refine⟨_,rfl,x,vx,20,rfl,hx,by rw[ZL.1];decide,fun H' s'=>⟨_,rfl,?_⟩⟩
 cases hw:pV x vx 20 with
 | false=>
  refine mE (mE ?_)
  have:=k H' s'
  rw[show bL x=0 by unfold bL;rw[if_neg (by rw[hw];simp)]] at this
  exact this
 | true=>
  refine pI ?_
  obtain⟨h1,h2,h3⟩:=uK hw
  obtain⟨c,e1,e2⟩:=iP h1
  refine⟨_,rfl,x,_,c,rfl,rfl,qj (by omega),e2,rfl,_,rfl,?_⟩
  have hz:=Yz c 48
  rw[←KS] at hz
  refine jH (fun h4=>?_) (fun h4=>?_)
  ·have h4':decide (V.str ⟨#[c]⟩=V.str ("0" : Str))=true:=h4
   rw[hz] at h4'
   have hc:c=48:=of_decide_eq_true h4'
   have:=k H' s'
   rw[show bL x=0 by unfold bL;rw[if_neg (by rw[e1,hc];simp)]] at this
   exact this
  ·have hc:c≠48:=fun q=>h4 (by show decide (V.str ⟨#[c]⟩=V.str ("0" : Str))=true;rw[hz];exact decide_eq_true q)
   have hne:x.cps.toList≠[]:=fun q=>by rw[q] at e1;cases e1
   refine⟨_,rfl,x,_,rfl,PySem.intText_digits h3 hne (by omega),by omega,?_⟩
   have:=k H' s'
   rw[show bL x=((PySem.NumText.digitsVal x.cps.toList:Nat):Int) by unfold bL;rw[if_pos ⟨hw,by rw[e1];simpa using hc⟩]] at this
   exact this
end
local macro_rules | `(tactic| walk_at "at")=>`(tactic| first | assumption | exact At.same (by assumption) (by walk_at "sm"))
local macro_rules | `(tactic| walk_at "fld")=>`(tactic| first
 | with_reducible exact At.fl (by assumption) (by walk_at "at") | with_reducible exact At.fw (by assumption) (by walk_at "at") | with_reducible exact At.fa (by assumption) (by walk_at "at")
 | with_reducible exact At.ft (by assumption) (by walk_at "at") | with_reducible exact At.fr (by assumption) (by walk_at "at") (by first | assumption | omega))
section
variable {P:Program} {w:World} {K:PySem.W.Frag} {mg:Str→Option Value} {base:Heap} {t:jt}
end
noncomputable def yd (x p:Str):Bool:=if p = "NAME" then qK x else if p = "WHO" then qK x || decide (x = "any") else if p = "NUMBER" then decide (bL x > 0) else decide (x=p)
noncomputable def kW (ws fs:List Str):Bool:=decide (ws.length=fs.length) && (ws.zip fs).all fun p=>yd p.1 p.2
noncomputable def mw (ws:List Str) (m:Int):Bool:=decide (1≤ws.length) && decide ((ws.length:Int)≤m) && ws.all qK
structure Sh (ws:List Str):Prop where
 nE:ws.length≤200
 short:∀x∈ws,x.length≤400
theorem Sh.drop {ws:List Str} (h:Sh ws) (n:Nat):Sh (ws.drop n):=⟨by have:=h.nE;rw[List.length_drop];omega,fun x hx=>h.short x (List.mem_of_mem_drop hx)⟩
theorem Sh.take {ws:List Str} (h:Sh ws) (n:Nat):Sh (ws.take n):=⟨by have:=h.nE;rw[List.length_take];omega,fun x hx=>h.short x (List.mem_of_mem_take hx)⟩
theorem cH (a b:Str):decide (V.str a=V.str b)=decide (a=b):=by
 by_cases h:a=b
 ·subst h;simp
 ·have:¬(V.str a=V.str b):=fun q=>h (by injection q)
  rw[decide_eq_false this,decide_eq_false h]
theorem rm {a b:Str} (h:decide (V.str a=V.str b)=true):a=b:=by rw[cH] at h;exact of_decide_eq_true h
theorem rZ {a b:Str} (h:¬decide (V.str a=V.str b)=true):a≠b:=fun q=>h (by rw[cH];exact decide_eq_true q)
theorem Qt {a b:Str} (h:(!decide (V.str a=V.str b))=true):a≠b:=fun q=>by subst q;simp at h
theorem Qs {a b:Str} (h:¬(!decide (V.str a=V.str b))=true):a=b:=by
 rw[cH] at h
 by_cases q:a=b
 ·exact q
 ·exact absurd (by rw[decide_eq_false q];rfl) h
theorem lY {b:Bool} (h:(!b)=true):b=false:=by cases b;rfl;cases h
theorem lW {b:Bool} (h:¬(!b)=true):b=true:=by cases b;exact absurd rfl h;rfl
theorem dk {ws:List Str} {i:Nat} (h:i < ws.length):ws.getD i ""∈ws:=by
 rw[List.getD_eq_getElem?_getD,List.getElem?_eq_getElem h]
 exact List.getElem_mem h
noncomputable def Qu:Sp:=fun vs H Q _=>∃(x p:Str),vs=[.str x,.str p]∧x.length≤400∧∀H',qk H H'→Q (.bl (yd x p)) H'
noncomputable def oE (K:PySem.W.Frag):Sp:=fun vs H Q _=>∃(a b:Addr) (ws fs:List Str),vs=[.ref a,.ref b]∧qD K H a (ws.map V.str)∧qD K H b (fs.map V.str)∧Sh ws∧∀H',qk H H'→Q (.bl (kW ws fs)) H'
noncomputable def Kb (K:PySem.W.Frag):Sp:=fun vs H Q _=>∃(a:Addr) (m:Int) (ws:List Str),vs=[.ref a,.int m]∧qD K H a (ws.map V.str)∧Sh ws∧∀H',qk H H'→Q (.bl (mw ws m)) H'
theorem all_map {α:Type} {xs:List α} {bs:List Bool} {f:α→Bool} (hl:bs.length=xs.length) (h:∀(i:Nat) x b,xs[i]?=some x→bs[i]?=some b→b=f x):bs.all id=xs.all f:=by
 have e:bs=xs.map f:=by
  apply List.ext_getElem?
  intro i
  rw[List.getElem?_map]
  cases q:xs[i]? with
  | none=>exact List.getElem?_eq_none_iff.mpr (by rw[hl];exact List.getElem?_eq_none_iff.mp q)
  | some c=>
   have hi:i < bs.length:=by rw[hl];exact(List.getElem?_eq_some_iff.mp q).1
   rw[List.getElem?_eq_getElem hi,Option.map_some,h i c _ q (List.getElem?_eq_getElem hi)]
 rw[e,List.all_map]
 rfl
section
variable {P:Program} {w:World} {K:PySem.W.Frag} {mg:Str→Option Value} {base:Heap} {t:jt}
theorem uU:qo ["word","place"] ["word","place"] (z4 jJ):=⟨rfl,rfl,rfl,by decide +kernel,rfl,by decide +kernel,by decide +kernel⟩
set_option maxHeartbeats 400000 in
theorem uP (T:Txt K mg t):qi P w K mg base jk 3 t.vE t.vS ["word","place"] Qu:=by
 have G_v_is_name:qi P w K mg base jk 2 t.vP t.vH ["word"] iz:=(bT T).mono (by decide)
 have G_v_number_of:qi P w K mg base jk 2 t.vc t.vf ["word"] Ks:=(fu T).mono (by decide)
 refine T.wQ.fn.ok uU (fun vs H Q E h=>(by obtain⟨_,_,rfl,_⟩:=h;rfl)) (fun cdv A outer s H vs Q E hr h=>?_)
 obtain⟨x,p,rfl,hx,k⟩:=h
 refine⟨_,(z6 (qP (ql jd (pv 1) qq (qe _))
    (z8 (qw (qm G_v_is_name hr rfl T.j4.mg T.j4.fn.kp T.j4.bd .nil qQ (z0 (pv 0) z5)))) qr)
   (z6 (qP (ql jd (pv 1) qq (qe _))
    (z8 (qw (GJ (qm G_v_is_name hr rfl T.j4.mg T.j4.fn.kp T.j4.bd .nil qQ (z0 (pv 0) z5)) (oK (va jd (pv 0) qq (qe _)))))) qr)
   (z6 (qP (ql jd (pv 1) qq (qe _))
    (z8 (qw (va en (qm G_v_number_of hr rfl T.x5.mg T.x5.fn.kp T.x5.bd .nil qQ (z0 (pv 0) z5)) z7 (qe _)))) qr)
   (z8 (qw (va jd (pv 0) (pv 1) (qe _))))))),?_⟩
 walk_at "rd"
 refine jH (fun h1=>?_) (fun h1=>?_)
 ·have e:=rm h1
  subst e
  walk_at "rd"
  intro H' s'
  have:=k H' s'
  unfold yd at this
  rw[if_pos rfl] at this
  exact this
 have n1:=rZ h1
 walk_at "rd"
 refine jH (fun h2=>?_) (fun h2=>?_)
 ·have e:=rm h2
  subst e
  walk_at "rd"
  intro H' s'
  have:=k H' s'
  unfold yd at this
  rw[if_neg n1,if_pos rfl] at this
  refine⟨_,rfl,?_⟩
  refine jH (fun h3=>?_) (fun h3=>?_)
  ·rw[h3] at this;exact this
  ·walk_at "rd"
   rw[cH]
   rw[Bool.eq_false_iff.mpr h3] at this
   exact this
 have n2:=rZ h2
 walk_at "rd"
 refine jH (fun h3=>?_) (fun h3=>?_)
 ·have e:=rm h3
  subst e
  walk_at "rd"
  intro H' s'
  walk_at "rd"
  have:=k H' s'
  unfold yd at this
  rw[if_neg n1,if_neg n2,if_pos rfl] at this
  exact this
 have n3:=rZ h3
 walk_at "rd"
 have:=k H (qk.refl H)
 unfold yd at this
 rw[if_neg n1,if_neg n2,if_neg n3] at this
 rw[cH]
 exact this
theorem lI:qo ["words","form"] ["words","form"] (z4 ja):=⟨rfl,rfl,rfl,by decide +kernel,rfl,by decide +kernel,by decide +kernel⟩
set_option maxHeartbeats 400000 in
theorem gh (T:Txt K mg t):qi P w K mg base jk 4 t.kn t.kr ["words","form"] (oE K):=by
 have G_v_fits_place:qi P w K mg base jk 3 t.vE t.vS ["word","place"] Qu:=(uP T).mono (by decide)
 refine T.qU.fn.ok lI (fun vs H Q E h=>(by obtain⟨_,_,_,_,rfl,_⟩:=h;rfl)) (fun cdv A outer s H vs Q E hr h=>?_)
 obtain⟨a,b,ws,fs,rfl,hA,hB,hS,k⟩:=h
 refine⟨_,(z6 (qP (ql eo (qC (jG (K:=K) rfl) rfl T.vY PySem.boot_len (z0 (pv 0) z5)) (qC (jG (K:=K) rfl) rfl T.vY PySem.boot_len (z0 (pv 1) z5)) (qe _))
    (z8 (qw gB)) qr)
   (z8 (qw (qC (gR rfl) rfl T.ZG PyProof.Rows.boot_all (z0 (ng (osc:=z4 ja) (N:=["words","form"]) (xs:=["word","place"]) (names:=[]) (qN:=[]) rfl rfl rfl ⟨rfl,by decide +kernel,by decide +kernel,by decide +kernel,by decide +kernel,rfl,by decide +kernel,by decide +kernel⟩ (Qw (K:=K) rfl rfl T.JS (z0 (pv 0) (z0 (pv 1) z5)) PyProof.Rows.boot_zip) (fun _ _ _=>(cc (K:=K) (n:=2) rfl rfl (kN (jC (i:=0) (show (["word","place"]:List Str).Nodup from by decide +kernel) rfl (.inl (iI rfl)) (.inr (iI rfl))) (kN (jC (i:=1) (show (["word","place"]:List Str).Nodup from by decide +kernel) rfl (.inl (iI rfl)) (.inr (iI rfl))) cu)) rfl rfl)) (fun _ _ _=>Qy) (fun _ _ _=>(qm G_v_fits_place hr rfl T.wQ.mg T.wQ.fn.kp T.wQ.bd .nil qQ (z0 (pv 0) (z0 (pv 1) z5))))) z5))))),?_⟩
 refine⟨_,rfl,a,_,rfl,.inl hA,_,rfl,b,_,rfl,.inl hB,rfl,_,rfl,?_⟩
 rw[List.length_map,List.length_map]
 refine jH (fun h1=>?_) (fun h1=>?_)
 ·have:=k H (qk.refl H)
  have e:¬ws.length=fs.length:=by
   intro q;rw[q] at h1;simp at h1
  unfold kW at this
  rw[decide_eq_false e] at this
  exact this
 have hl:ws.length=fs.length:=by
  by_cases q:ws.length=fs.length
  ·exact q
  ·exact absurd (by simp;omega) h1
 refine⟨_,rfl,_,rfl,a,b,_,_,rfl,hA,hB,?_⟩
 refine J0 hA hB (fun x y v=>∀x' y',x=.str x'→y=.str y'→v=.bl (yd x' y')) (qj (by have:=hS.nE;rw[List.length_map];omega)) ?_ ?_
 ·intro i x y H' Q' e1 e2 s' kk
  rw[List.getElem?_map] at e1 e2
  cases q1:ws[i]? with
  | none=>rw[q1] at e1;cases e1
  | some x'=>
   cases q2:fs[i]? with
   | none=>rw[q2] at e2;cases e2
   | some y'=>
    rw[q1] at e1
    rw[q2] at e2
    cases e1
    cases e2
    refine⟨_,rfl,_,rfl,x',y',rfl,hS.short x' (List.mem_of_getElem? q1),fun H4 s4=>kk _ _ s4 fun a b ea eb=>?_⟩
    cases ea
    cases eb
    rfl
 ·intro D H' vs s' hD hv hvl hp
  rw[List.length_map,List.length_map,hl,Nat.min_self] at hvl
  obtain⟨bs,rfl⟩:=nC vs fun v hv'=>by
   obtain⟨i,hi,e⟩:=List.getElem_of_mem hv'
   have h1:i < ws.length:=by omega
   have h2:i < fs.length:=by omega
   exact⟨_,hp i _ _ v (by rw[List.getElem?_map,List.getElem?_eq_getElem h1];rfl) (by rw[List.getElem?_map,List.getElem?_eq_getElem h2];rfl) (by rw[List.getElem?_eq_getElem hi,e]) _ _ rfl rfl⟩
  refine⟨D,bs,rfl,qD.of hv,?_⟩
  have e:bs.all id=(ws.zip fs).all fun p=>yd p.1 p.2:=all_map (by rw[List.length_zip,hl,Nat.min_self];simpa using hvl) fun i p b q1 q2=>by
   rw[List.getElem?_zip_eq_some] at q1
   have:=hp i _ _ (.bl b) (by rw[List.getElem?_map,q1.1];rfl) (by rw[List.getElem?_map,q1.2];rfl) (by rw[List.getElem?_map,q2];rfl) _ _ rfl rfl
   simpa using this
  have:=k H' s'
  unfold kW at this
  rw[decide_eq_true hl,←e] at this
  exact this
theorem lO:qo ["words","most"] ["words","most"] (z4 je):=⟨rfl,rfl,rfl,by decide +kernel,rfl,by decide +kernel,by decide +kernel⟩
set_option maxHeartbeats 400000 in
theorem fc (T:Txt K mg t):qi P w K mg base jk 3 t.vd t.vp ["words","most"] (Kb K):=by
 have G_v_is_name:qi P w K mg base jk 2 t.vP t.vH ["word"] iz:=(bT T).mono (by decide)
 refine T.x4.fn.ok lO (fun vs H Q E h=>(by obtain⟨_,_,_,rfl,_⟩:=h;rfl)) (fun cdv A outer s H vs Q E hr h=>?_)
 obtain⟨a,m,ws,rfl,hA,hS,k⟩:=h
 refine⟨_,(z8 (qw (Zx (XR Wm Wm z7 (qC (jG (K:=K) rfl) rfl T.vY PySem.boot_len (z0 (pv 0) z5)) (pv 1)) (oK (qC (gR rfl) rfl T.ZG PyProof.Rows.boot_all (z0 (cm (osc:=z4 je) (N:=["words","most"]) (names:=[]) (qN:=[]) rfl rfl rfl ⟨rfl,by decide +kernel,by decide +kernel,by decide +kernel,rfl,rfl,by decide +kernel,by decide +kernel⟩ (vo (K:=K) rfl (pv 0)) (fun _ _ _=>(qm G_v_is_name hr rfl T.j4.mg T.j4.fn.kp T.j4.bd .nil qQ (z0 (pv 0) z5)))) z5)))))),?_⟩
 walk_at "rd"
 refine⟨a,_,rfl,.inl hA,_,_,rfl,rfl,_,rfl,?_⟩
 rw[List.length_map]
 have no:∀H',qk H H'→mw ws m=false→Q (.bl false) H':=fun H' s' e=>by have:=k H' s';rw[e] at this;exact this
 refine jH (fun h1=>?_) (fun h1=>?_)
 ·have h1':1≤ws.length:=by have:=of_decide_eq_true h1;omega
  refine⟨_,rfl,_,_,rfl,rfl,_,rfl,?_⟩
  refine jH (fun h2=>?_) (fun h2=>?_)
  ·have h2':(ws.length:Int)≤m:=of_decide_eq_true h2
   refine⟨_,rfl,a,rfl,⟨_,hA⟩,gA (uj hA) (fun _ y v=>∀x,y=.str x→v=.bl (qK x)) (qj (by have:=hS.nE;rw[List.length_map];omega)) ?_ ?_⟩
   ·intro i y H' Q' e1 s' kk
    rw[List.getElem?_map] at e1
    cases q1:ws[i]? with
    | none=>rw[q1] at e1;cases e1
    | some x'=>
     rw[q1] at e1
     cases e1
     exact⟨_,rfl,x',rfl,hS.short x' (List.mem_of_getElem? q1),fun H4 s4=>kk _ _ s4 fun a ea=>by cases ea;rfl⟩
   ·intro D H' vs s' hD hv hvl hp
    rw[List.length_map] at hvl
    obtain⟨bs,rfl⟩:=nC vs fun v hv'=>by
     obtain⟨i,hi,e⟩:=List.getElem_of_mem hv'
     have h1:i < ws.length:=by omega
     exact⟨_,hp i _ v (by rw[List.getElem?_map,List.getElem?_eq_getElem h1];rfl) (by rw[List.getElem?_eq_getElem hi,e]) _ rfl⟩
    refine⟨D,bs,rfl,qD.of hv,?_⟩
    have e:bs.all id=ws.all qK:=all_map (by simpa using hvl) fun i p b q1 q2=>by
     have:=hp i _ (.bl b) (by rw[List.getElem?_map,q1];rfl) (by rw[List.getElem?_map,q2];rfl) _ rfl
     simpa using this
    have:=k H' s'
    unfold mw at this
    rw[decide_eq_true h1',decide_eq_true h2',←e] at this
    exact this
  ·refine no H (qk.refl H) ?_
   have:¬(ws.length:Int)≤m:=fun q=>h2 (decide_eq_true q)
   simp [mw,this]
 ·refine⟨false,rfl,pI ?_⟩
  refine no H (qk.refl H) ?_
  have:¬1≤ws.length:=fun q=>h1 (decide_eq_true (by omega))
  simp only[mw,decide_eq_false this,Bool.false_and]
end
noncomputable def yr (x:Str):List Str:=Txt.split x " "
theorem rf (x:Str):1≤(yr x).length∧(yr x).length≤x.length + 2:=⟨PyProof.Rows.split_pos x " ",PyProof.Rows.split_le x " "⟩
theorem sv {x:Str} (h:x.length≤190):Sh (yr x):=⟨by have:=(rf x).2;omega,fun y hy=>by have:=PyProof.Rows.part_short (x:=x) (y:=" ") hy;omega⟩
theorem pM {α:Type} (f:α→V) (xs:List α) (n:Nat):g6 (xs.map f) (some (n:Int)) none=(xs.drop n).map f:=by
 unfold g6
 rw[HT.bE,HT.eB,List.length_map,←List.map_drop,←List.map_take]
 by_cases h:n≤xs.length
 ·rw[Nat.min_eq_left h,List.take_of_length_le (by rw[List.length_drop];omega)]
 ·rw[Nat.min_eq_right (by omega),Nat.sub_self,List.drop_eq_nil_of_le (Nat.le_refl _),List.drop_eq_nil_of_le (by omega)]
  rfl
theorem rG {α:Type} (f:α→V) (xs:List α) (n:Nat):g6 (xs.map f) none (some (n:Int))=(xs.take n).map f:=by
 unfold g6
 rw[HT.bE,HT.eB,List.length_map,List.drop_zero,Nat.sub_zero,←List.map_take]
 by_cases h:n≤xs.length
 ·rw[Nat.min_eq_left h]
 ·rw[Nat.min_eq_right (by omega),List.take_length,List.take_of_length_le (by omega)]
noncomputable def wd (ws:List Str) (i:Nat):Str:=ws.getD i ""
noncomputable def J8:List Str:=["let","NAME","be","NAME"]
noncomputable def rM:List Str:=["part","NAME"]
noncomputable def ZN:List Str:=["NAME","NAME","must","NAME","by","NUMBER","else","NAME"]
noncomputable def nI:List Str:=["NAME","WHO","may","NAME"]
noncomputable def Vy:List Str:=["NAME","WHO","may","not","NAME","else","NAME"]
noncomputable def aW:List Str:=["NAME","WHO","by","NAME","to","NAME"]
noncomputable def vb (ws:List Str) (x:Str) (m:Int):List Str:=if wd ws 0≠x∨mw (ws.drop 1) m=false then [] else ws.drop 1
noncomputable def fZ (ws:List Str):Option (Str × Str):=if ws.length=2∧Vp (.str (wd ws 0)) (xo.map V.str)=true∧qK (wd ws 1)=true then some (wd ws 0,wd ws 1) else none
noncomputable def Q2 (ws:List Str):Option (Str × Str):=if kW ws J8=true then some (wd ws 1,wd ws 3) else none
noncomputable def wt (ws:List Str):Option (Str × List Str):=if kW (ws.take 2) rM=true then (if ws.length=2 then some (wd ws 1,[]) else if wd ws 2≠"in"∨mw (ws.drop 3) 12=false then none else some (wd ws 1,ws.drop 3)) else none
noncomputable def jL (ws:List Str):Option (Int × Str × Str × Str × Int × Str):=
 if kW ws ZN=true then some (0,wd ws 0,wd ws 1,wd ws 3,bL (wd ws 5),wd ws 7)
 else if kW ws nI=true then some (1,wd ws 0,wd ws 1,wd ws 3,0,"")
 else if kW ws Vy=true then some (2,wd ws 0,wd ws 1,wd ws 4,0,wd ws 6)
 else if kW ws aW=true then some (3,wd ws 0,wd ws 1,wd ws 3,0,wd ws 5)
 else none
theorem g8 {ws fs:List Str} (h:kW ws fs=true):ws.length=fs.length:=by
 unfold kW at h
 rw[Bool.and_eq_true] at h
 exact of_decide_eq_true h.1
noncomputable def YE (n v:Str):List (Str × V):=[("name",.str n),("value",.str v)]
noncomputable def nA (n:Str) (a b:Addr):List (Str × V):=[("name",.str n),("rooms",.ref a),("rows",.ref b)]
theorem m1:¬(("name" : Str) = "value"):=by decide +kernel
theorem m2:¬(("name" : Str) = "rooms"):=by decide +kernel
theorem m3:¬(("name" : Str) = "rows"):=by decide +kernel
theorem m4:¬(("rooms" : Str) = "rows"):=by decide +kernel
theorem GV (n v:Str):qM "value" (.str v) (qM "name" (.str n) [])=YE n v:=by
 simp only[qM,YE,if_neg m1]
theorem GW (n:Str) (a b:Addr):qM "rows" (.ref b) (qM "rooms" (.ref a) (qM "name" (.str n) []))=nA n a b:=by
 simp only[qM,nA,if_neg m2,if_neg m3,if_neg m4]
noncomputable def V5 (t:jt) (H:Hp) (p:Addr) (n v:Str):Prop:=∃dx,H p=some (.ins t.kZ dx (YE n v))
noncomputable def JG (t:jt) (H0 H:Hp) (p:Addr) (n:Str) (rs:List Str) (ys:List V):Prop:=∃dx a b,H p=some (.ins t.qH dx (nA n a b))∧H a=some (.lst (rs.map V.str))∧H b=some (.lst ys)∧H0 a=none∧H0 b=none
noncomputable abbrev Pq (t:jt) (H0 H:Hp) (p:Addr) (n:Str) (rs:List Str):Prop:=JG t H0 H p n rs []
theorem JG.back {t:jt} {H0 H1 H:Hp} {p:Addr} {n:Str} {rs:List Str} {ys:List V} (h:JG t H1 H p n rs ys) (s:qk H0 H1):JG t H0 H p n rs ys:=by
 obtain⟨dx,a,b,e1,e2,e3,f1,f2⟩:=h
 exact⟨dx,a,b,e1,e2,e3,s.free f1,s.free f2⟩
noncomputable def Off (p:Addr) (H H':Hp):Prop:=∀b o,b≠p→H b=some o→H' b=some o
noncomputable def YQ (t:jt):Sp:=fun vs H Q _=>∃(p dx:Addr) (n v:Str),vs=[.ref p,.str n,.str v]∧H p=some (.ins t.kZ dx [])∧Q .non (upd H p (.ins t.kZ dx (YE n v)))
noncomputable def Kc (K:PySem.W.Frag) (t:jt):Sp:=fun vs H Q _=>∃(p dx a b:Addr) (n:Str) (xs:List Str) (ys:List V),vs=[.ref p,.str n,.ref a,.ref b]∧H p=some (.ins t.qH dx [])∧H a=some (.lst (xs.map V.str))∧H b=some (.lst ys)∧
 ∀H',Off p H H'→JG t H H' p n xs ys→Q .non H'
noncomputable def Wl:Sp:=fun vs H Q _=>∃(x y:Str) (m:Int),vs=[.str x,.str y,.int m]∧x.length≤190∧∀l H',qk H H'→H l=none→H' l=some (.lst ((vb (yr x) y m).map V.str))→Q (.ref l) H'
noncomputable def Ko:Sp:=fun vs H Q _=>∃(x:Str),vs=[.str x]∧x.length≤190∧∀H',qk H H'→(fZ (yr x)=none→Q .non H')∧∀p m n,fZ (yr x)=some (m,n)→H p=none→H' p=some (.tup [.str m,.str n])→Q (.ref p) H'
noncomputable def Wr (t:jt):Sp:=fun vs H Q _=>∃(x:Str),vs=[.str x]∧x.length≤190∧∀H',qk H H'→(Q2 (yr x)=none→Q .non H')∧∀p n v,Q2 (yr x)=some (n,v)→H p=none→V5 t H' p n v→Q (.ref p) H'
noncomputable def Kt (t:jt):Sp:=fun vs H Q _=>∃(x:Str),vs=[.str x]∧x.length≤190∧∀H',qk H H'→(wt (yr x)=none→Q .non H')∧∀p n rs,wt (yr x)=some (n,rs)→H p=none→Pq t H H' p n rs→Q (.ref p) H'
noncomputable def eE (t:jt):Sp:=fun vs H Q _=>∃(x:Str),vs=[.str x]∧x.length≤190∧∀H',qk H H'→(jL (yr x)=none→Q .non H')∧∀p k l u a n r,jL (yr x)=some (k,l,u,a,n,r)→H p=none→At t H' p k l u a n r→Q (.ref p) H'
theorem wj {H:Hp} {p dx:Addr} {o o2:HO} (hp:H p=none) (hdx:H dx=none):qk H (upd (upd H dx o) p o2):=fun b u e=>by rw[qB (qv e hp),qB (qv e hdx)];exact e
theorem dN {H H':Hp} {p dx:Addr} {o o2:HO} (hp:H p=none) (hdx:H dx=none) (f:Off p (upd (upd H dx o) p o2) H'):qk H H':=fun b u e=>f b u (qv e hp) (wj hp hdx b u e)
section
variable {P:Program} {w:World} {K:PySem.W.Frag} {mg:Str→Option Value} {base:Heap} {t:jt}
theorem Xi (T:Txt K mg t) (H:Hp):yy K H t.dY (xo.map V.str):=.inr T.Qq
theorem aT:(xo.map V.str).all mi=true:=by decide +kernel
theorem eM:qo ["self","name","value"] ["self","name","value"] (z4 kx):=⟨rfl,rfl,rfl,by decide +kernel,rfl,by decide +kernel,by decide +kernel⟩
set_option maxHeartbeats 400000 in
theorem uQ (T:Txt K mg t):qi P w K mg base jk 1 t.wB t.y1 ["self","name","value"] (YQ t):=by
 refine T.dy.fn.ok eM (fun vs H Q E h=>(by obtain⟨_,_,_,_,rfl,_⟩:=h;rfl)) (fun cdv A outer s H vs Q E hr h=>?_)
 obtain⟨p,dx,n,v,rfl,hp,k⟩:=h
 refine⟨_,(z6 (kz (pv 0) (pv 1) rfl)
   (z8 (kz (pv 0) (pv 2) rfl))),?_⟩
 refine⟨_,rfl,_,rfl,p,_,dx,[],rfl,hp,T.mT,T.fk,(by show 0 < 1000;decide),?_⟩
 refine⟨_,rfl,_,rfl,p,_,dx,_,rfl,qx,T.mT,T.bC,(by show 1 < 1000;decide),?_⟩
 rw[gM,GV]
 exact k
theorem oR:qo ["self","name","rooms","rows"] ["self","name","rooms","rows"] (z4 xX):=⟨rfl,rfl,rfl,by decide +kernel,rfl,by decide +kernel,by decide +kernel⟩
set_option maxHeartbeats 400000 in
theorem yF (T:Txt K mg t):qi P w K mg base jk 1 t.xA t.kD ["self","name","rooms","rows"] (Kc K t):=by
 refine T.vW.fn.ok oR (fun vs H Q E h=>(by obtain⟨_,_,_,_,_,_,_,rfl,_⟩:=h;rfl)) (fun cdv A outer s H vs Q E hr h=>?_)
 obtain⟨p,dx,a,b,n,xs,ys,rfl,hp,hA,hB,k⟩:=h
 refine⟨_,(z6 (kz (pv 0) (pv 1) rfl)
   (z6 (kz (pv 0) (jn (wb (K:=K) rfl) rfl T.yI PyProof.Rows.boot_list (z0 (pv 2) z5)) rfl)
   (z8 (kz (pv 0) (jn (wb (K:=K) rfl) rfl T.yI PyProof.Rows.boot_list (z0 (pv 3) z5)) rfl)))),?_⟩
 have na:a≠p:=yV hA hp (by intro z;cases z)
 have nb:b≠p:=yV hB hp (by intro z;cases z)
 refine⟨_,rfl,_,rfl,p,_,dx,[],rfl,hp,T.kJ,T.wg,(by show 0 < 1000;decide),?_⟩
 have o1:Off p H (upd H p (.ins t.qH dx (qM "name" (.str n) []))):=fun c o hc e=>by rw[qB hc];exact e
 generalize hH1:upd H p (.ins t.qH dx (qM "name" (.str n) []))=H1 at o1 ⊢
 have e1:H1 p=some (.ins t.qH dx (qM "name" (.str n) [])):=by rw[←hH1];exact qx
 refine⟨_,rfl,a,_,rfl,.inl (qD.of (o1 _ _ na hA)),?_⟩
 intro q1 H2 s2 hq1 e2
 refine⟨_,rfl,p,_,dx,_,rfl,s2 _ _ e1,T.kJ,T.yz,(by show 1 < 1000;decide),?_⟩
 have nq1:q1≠p:=Ne.symm (qv e1 hq1)
 have o2:Off p H2 (upd H2 p (.ins t.qH dx (qM "rooms" (.ref q1) (qM "name" (.str n) [])))):=fun c o hc e=>by rw[qB hc];exact e
 generalize hH3:upd H2 p (.ins t.qH dx (qM "rooms" (.ref q1) (qM "name" (.str n) [])))=H3 at o2 ⊢
 have e3:H3 p=some (.ins t.qH dx (qM "rooms" (.ref q1) (qM "name" (.str n) []))):=by rw[←hH3];exact qx
 refine⟨_,rfl,b,_,rfl,.inl (qD.of (o2 _ _ nb (s2 _ _ (o1 _ _ nb hB)))),?_⟩
 intro q2 H4 s4 hq2 e4
 refine⟨_,rfl,p,_,dx,_,rfl,s4 _ _ e3,T.kJ,T.bR,?_,?_⟩
 ·have:=x3 ("rooms" : Str) (.ref q1) (qM "name" (.str n) [])
  have e:(qM ("name" : Str) (.str n) []).length=1:=rfl
  omega
 have nq2:q2≠p:=Ne.symm (qv e3 hq2)
 rw[GW]
 refine k _ (fun c o hc e=>by rw[qB hc];exact s4 _ _ (o2 _ _ hc (s2 _ _ (o1 _ _ hc e)))) ⟨dx,q1,q2,qx,?_,?_,?_,?_⟩
 ·rw[qB nq1];exact s4 _ _ (o2 _ _ nq1 e2)
 ·rw[qB nq2];exact e4
 ·rw[←hH1,qB nq1] at hq1;exact hq1
 ·have z:H2 q2=none:=by rw[←hH3,qB nq2] at hq2;exact hq2
  have z1:=s2.free z
  rw[←hH1,qB nq2] at z1;exact z1
theorem mC:qo ["row","word","most","words"] ["row","word","most"] (z4 xx):=⟨rfl,rfl,rfl,by decide +kernel,rfl,by decide +kernel,by decide +kernel⟩
set_option maxHeartbeats 400000 in
theorem sL (T:Txt K mg t):qi P w K mg base jk 4 t.yP t.yY ["row","word","most"] Wl:=by
 have G_v_are_names:qi P w K mg base jk 3 t.vd t.vp ["words","most"] (Kb K):=(fc T).mono (by decide)
 refine T.gm.fn.ok mC (fun vs H Q E h=>(by obtain⟨_,_,_,rfl,_⟩:=h;rfl)) (fun cdv A outer s H vs Q E hr h=>?_)
 obtain⟨x,y,m,rfl,hx,k⟩:=h
 refine⟨_,(z6 (qZ (i:=3) mC.nd rfl (Or.inl rfl) (ji PySem.F.plainAttrs_str PySem.F.slot_str_split PySem.F.type_str_split bq (pv 0) (z0 qq z5)))
   (z6 (qP (PW.pt (gp (ql eo (qy (qf (K:=K) rfl) (pv 3) z7 (fun _ _=>rfl)) (pv 1) (qe _)) (wC (yX (xu (qm G_v_are_names hr rfl T.x4.mg T.x4.fn.kp T.x4.bd .nil qQ (z0 (kT (kL (K:=K) rfl) (pv 3) (xi z7) gP) (z0 (pv 2) z5))))))))
    (z8 (qw (qF z5))) qr)
   (z8 (qw (kT (kL (K:=K) rfl) (pv 3) (xi z7) gP))))),?_⟩
 walk_at "rd"
 refine⟨qj (by omega),?_⟩
 intro lw H1 s1 hlw e1
 have hS:=sv hx
 have hl:=(rf x).1
 have e1':H1 lw=some (.lst ((yr x).map V.str)):=e1
 clear e1
 generalize yr x=ws at *
 walk_at "rd"
 refine jH (fun h1=>?_) (fun h1=>?_)
 ·have n:vb ws y m=[]:=if_pos (.inl (Qt h1))
  walk_at "rd"
  intro l H2 s2 hl2 e2
  exact k l H2 (s1.trans s2) (s1.free hl2) (by rw[n];exact e2)
 have w0:=Qs h1
 walk_at "rd"
 intro lc H2 s2 hlc e2
 replace e2:H2 lc=some (.lst ((ws.drop 1).map V.str)):=by rw[←pM V.str ws 1];exact e2
 refine⟨_,rfl,lc,m,_,rfl,qD.of e2,hS.drop 1,fun H3 s3=>?_⟩
 walk_at "rd"
 cases hN:mw (ws.drop 1) m with
 | false=>
  refine mE ?_
  have n:vb ws y m=[]:=if_pos (.inr hN)
  walk_at "rd"
  intro l H4 s4 hl4 e4
  exact k l H4 (((s1.trans s2).trans s3).trans s4) (((s1.trans s2).trans s3).free hl4) (by rw[n];exact e4)
 | true=>
  refine pI ?_
  have n:vb ws y m=ws.drop 1:=if_neg (fun q=>q.elim (fun q=>q w0) (fun q=>by rw[hN] at q;cases q))
  walk_at "rd"
  intro l H4 s4 hl4 e4
  replace e4:H4 l=some (.lst ((ws.drop 1).map V.str)):=by rw[←pM V.str ws 1];exact e4
  exact k l H4 (((s1.trans s2).trans s3).trans s4) (((s1.trans s2).trans s3).free hl4) (by rw[n];exact e4)
theorem cV:qo ["row","words"] ["row"] (z4 xW):=⟨rfl,rfl,rfl,by decide +kernel,rfl,by decide +kernel,by decide +kernel⟩
set_option maxHeartbeats 400000 in
theorem oZ (T:Txt K mg t):qi P w K mg base jk 3 t.gK t.gQ ["row"] Ko:=by
 have G_v_is_name:qi P w K mg base jk 2 t.vP t.vH ["word"] iz:=(bT T).mono (by decide)
 refine T.bc.fn.ok cV (fun vs H Q E h=>(by obtain⟨_,rfl,_⟩:=h;rfl)) (fun cdv A outer s H vs Q E hr h=>?_)
 obtain⟨x,rfl,hx,k⟩:=h
 refine⟨_,(z6 (qZ (i:=1) cV.nd rfl (Or.inl rfl) (ji PySem.F.plainAttrs_str PySem.F.slot_str_split PySem.F.type_str_split bq (pv 0) (z0 qq z5)))
   (z6 (qP (PW.pt (gp (ql eo (qC (jG (K:=K) rfl) rfl T.vY PySem.boot_len (z0 (pv 1) z5)) z7 (qe _)) (gp (ql (nz (K:=K) rfl) (qy (qf (K:=K) rfl) (pv 1) z7 (fun _ _=>rfl)) (jD rfl T.ZI (v:=.ref t.dY) rfl) rfl) (wC (yX (xu (qm G_v_is_name hr rfl T.j4.mg T.j4.fn.kp T.j4.bd .nil qQ (z0 (qy (qf (K:=K) rfl) (pv 1) z7 (fun _ _=>rfl)) z5))))))))
    (z8 (qw bN)) qr)
   (z8 (qw (xm (z0 (qy (qf (K:=K) rfl) (pv 1) z7 (fun _ _=>rfl)) (z0 (qy (qf (K:=K) rfl) (pv 1) z7 (fun _ _=>rfl)) z5))))))),?_⟩
 walk_at "rd"
 refine⟨qj (by omega),?_⟩
 intro lw H1 s1 hlw e1
 have hS:=sv hx
 have e1':H1 lw=some (.lst ((yr x).map V.str)):=e1
 clear e1
 generalize yr x=ws at *
 refine⟨_,rfl,lw,_,rfl,.inl (qD.of e1'),rfl,_,rfl,?_⟩
 rw[List.length_map]
 have no:∀H',qk H H'→fZ ws=none→Q .non H':=fun H' s' e=>(k H' s').1 e
 refine jH (fun h1=>mE (no _ s1 (if_neg fun q=>?_))) (fun h1=>?_)
 ·rw[q.1] at h1;simp at h1
 have hl:ws.length=2:=by
  by_cases q:ws.length=2
  ·exact q
  ·exact absurd (by simp;omega) h1
 walk_at "rd"
 refine⟨_,_,rfl,.inr (Xi T _),rfl,aT,_,rfl,?_⟩
 refine jH (fun h2=>mE (no _ s1 (if_neg fun q=>?_))) (fun h2=>?_)
 ·have z:Vp (.str (wd ws 0)) (xo.map V.str)=false:=lY h2
  rw[z] at q
  cases q.2.1
 have hM:Vp (.str (wd ws 0)) (xo.map V.str)=true:=lW h2
 walk_at "rd"
 refine⟨hS.short _ (dk (by omega)),fun H2 s2=>?_⟩
 walk_at "rd"
 refine jH (fun h3=>no _ (s1.trans s2) (if_neg fun q=>?_)) (fun h3=>?_)
 ·have z:qK (wd ws 1)=false:=lY h3
  rw[z] at q
  cases q.2.2
 have hN:qK (wd ws 1)=true:=lW h3
 walk_at "rd"
 intro p H3 s3 hp e3
 exact(k H3 ((s1.trans s2).trans s3)).2 p (wd ws 0) (wd ws 1) (if_pos ⟨hl,hM,hN⟩) ((s1.trans s2).free hp) e3
theorem uX:qo ["row","words"] ["row"] (z4 ky):=⟨rfl,rfl,rfl,by decide +kernel,rfl,by decide +kernel,by decide +kernel⟩
set_option maxHeartbeats 400000 in
theorem i8 (T:Txt K mg t):qi P w K mg base jk 5 t.bY t.bZ ["row"] (Wr t):=by
 have G_v_fits_form:qi P w K mg base jk 4 t.kn t.kr ["words","form"] (oE K):=(gh T).mono (by decide)
 have M_Let_init:qi P w K mg base jk 3 t.wB t.y1 ["self","name","value"] (YQ t):=(uQ T).mono (by decide)
 refine T.fY.fn.ok uX (fun vs H Q E h=>(by obtain⟨_,rfl,_⟩:=h;rfl)) (fun cdv A outer s H vs Q E hr h=>?_)
 obtain⟨x,rfl,hx,k⟩:=h
 refine⟨_,(z6 (qZ (i:=1) uX.nd rfl (Or.inl rfl) (ji PySem.F.plainAttrs_str PySem.F.slot_str_split PySem.F.type_str_split bq (pv 0) (z0 qq z5)))
   (z6 (qP (yX (xu (qm G_v_fits_form hr rfl T.qU.mg T.qU.fn.kp T.qU.bd .nil qQ (z0 (pv 1) (z0 (qF (z0 qq (z0 qq (z0 qq (z0 qq z5))))) z5)))))
    (z8 (qw bN)) qr)
   (z8 (qw (xr T.aO M_Let_init hr rfl T.Z7 T.dy.bd .nil qQ (z0 (qy (qf (K:=K) rfl) (pv 1) z7 (fun _ _=>rfl)) (z0 (qy (qf (K:=K) rfl) (pv 1) z7 (fun _ _=>rfl)) z5))))))),?_⟩
 walk_at "rd"
 refine⟨qj (by omega),?_⟩
 intro lw H1 s1 hlw e1
 have hS:=sv hx
 have e1':H1 lw=some (.lst ((yr x).map V.str)):=e1
 clear e1
 generalize yr x=ws at *
 walk_at "rd"
 intro lf H2 s2 hlf e2
 refine⟨lw,lf,ws,J8,rfl,qD.of (s2 _ _ e1'),qD.of e2,hS,fun H3 s3=>?_⟩
 walk_at "rd"
 refine jH (fun h3=>(k _ ((s1.trans s2).trans s3)).1 (if_neg fun q=>?_)) (fun h3=>?_)
 ·have z:kW ws J8=false:=lY h3
  rw[z] at q
  cases q
 have hF:kW ws J8=true:=lW h3
 have hl:ws.length=4:=g8 hF
 walk_at "rd"
 intro p dx hp hdx hne
 refine⟨p,dx,_,_,rfl,qx,rfl,?_⟩
 exact(k _ (((s1.trans s2).trans s3).trans (ko hp hdx hne))).2 p _ _ (if_pos hF) (((s1.trans s2).trans s3).free hp) ⟨dx,qx⟩
theorem cK:qo ["row","words"] ["row"] (z4 xV):=⟨rfl,rfl,rfl,by decide +kernel,rfl,by decide +kernel,by decide +kernel⟩
set_option maxHeartbeats 400000 in
theorem oa (T:Txt K mg t):qi P w K mg base jk 5 t.gX t.gZ ["row"] (Kt t):=by
 have G_v_are_names:qi P w K mg base jk 4 t.vd t.vp ["words","most"] (Kb K):=(fc T).mono (by decide)
 have G_v_fits_form:qi P w K mg base jk 4 t.kn t.kr ["words","form"] (oE K):=(gh T).mono (by decide)
 have M_Part_init:qi P w K mg base jk 3 t.xA t.kD ["self","name","rooms","rows"] (Kc K t):=(yF T).mono (by decide)
 refine T.bf.fn.ok cK (fun vs H Q E h=>(by obtain⟨_,rfl,_⟩:=h;rfl)) (fun cdv A outer s H vs Q E hr h=>?_)
 obtain⟨x,rfl,hx,k⟩:=h
 refine⟨_,(z6 (qZ (i:=1) cK.nd rfl (Or.inl rfl) (ji PySem.F.plainAttrs_str PySem.F.slot_str_split PySem.F.type_str_split bq (pv 0) (z0 qq z5)))
   (z6 (qP (yX (xu (qm G_v_fits_form hr rfl T.qU.mg T.qU.fn.kp T.qU.bd .nil qQ (z0 (kT (kL (K:=K) rfl) (pv 1) gP (xi z7)) (z0 (qF (z0 qq (z0 qq z5))) z5)))))
    (z8 (qw bN)) qr)
   (z6 (qP (ql jd (qC (jG (K:=K) rfl) rfl T.vY PySem.boot_len (z0 (pv 1) z5)) z7 (qe _))
    (z8 (qw (xr T.bD M_Part_init hr rfl T.p9 T.vW.bd .nil qQ (z0 (qy (qf (K:=K) rfl) (pv 1) z7 (fun _ _=>rfl)) (z0 (qF z5) (z0 (qF z5) z5)))))) qr)
   (z6 (qP (PW.pt (gp (ql eo (qy (qf (K:=K) rfl) (pv 1) z7 (fun _ _=>rfl)) qq (qe _)) (wC (yX (xu (qm G_v_are_names hr rfl T.x4.mg T.x4.fn.kp T.x4.bd .nil qQ (z0 (kT (kL (K:=K) rfl) (pv 1) (xi z7) gP) (z0 (jD rfl (T.bM).choose_spec (v:=.int 12) ⟨_,rfl⟩) z5))))))))
    (z8 (qw bN)) qr)
   (z8 (qw (xr T.bD M_Part_init hr rfl T.p9 T.vW.bd .nil qQ (z0 (qy (qf (K:=K) rfl) (pv 1) z7 (fun _ _=>rfl)) (z0 (kT (kL (K:=K) rfl) (pv 1) (xi z7) gP) (z0 (qF z5) z5)))))))))),?_⟩
 walk_at "rd"
 refine⟨qj (by omega),?_⟩
 intro lw H1 s1 hlw e1
 have hS:=sv hx
 have e1':H1 lw=some (.lst ((yr x).map V.str)):=e1
 clear e1
 generalize yr x=ws at *
 walk_at "rd"
 intro lc H2 s2 hlc e2
 replace e2:H2 lc=some (.lst ((ws.take 2).map V.str)):=by rw[←rG V.str ws 2];exact e2
 walk_at "rd"
 intro lf H3 s3 hlf e3
 refine⟨lc,lf,ws.take 2,rM,rfl,qD.of (s3 _ _ e2),qD.of e3,hS.take 2,fun H4 s4=>?_⟩
 have sA:qk H H4:=((s1.trans s2).trans s3).trans s4
 walk_at "rd"
 refine jH (fun h3=>(k _ sA).1 (if_neg fun q=>?_)) (fun h3=>?_)
 ·have z:kW (ws.take 2) rM=false:=lY h3
  rw[z] at q
  cases q
 have hF:kW (ws.take 2) rM=true:=lW h3
 have hl:2≤ws.length:=by have:(ws.take 2).length=2:=g8 hF;rw[List.length_take] at this;omega
 have e4:H4 lw=some (.lst (ws.map V.str)):=s4 _ _ (s3 _ _ (s2 _ _ e1'))
 clear e1' e2 e3 s1 s2 s3 s4
 refine⟨_,rfl,lw,_,rfl,.inl (qD.of e4),rfl,_,rfl,?_⟩
 rw[List.length_map]
 refine jH (fun h4=>?_) (fun h4=>?_)
 ·have hl2:ws.length=2:=by have:=of_decide_eq_true h4;injection this with this;omega
  walk_at "rd"
  intro a1 H5 s5 ha1 e5
  walk_at "rd"
  intro a2 H6 s6 ha2 e6
  walk_at "rd"
  intro p dx hp hdx hne
  have sM:=wj (o:=HO.own p) (o2:=HO.ins t.qH dx []) hp hdx
  refine⟨p,dx,a1,a2,_,[],[],rfl,qx,sM _ _ (s6 _ _ e5),sM _ _ e6,fun H7 o7 h7=>⟨rfl,?_⟩⟩
  exact(k H7 (((sA.trans s5).trans s6).trans (dN hp hdx o7))).2 p _ _ (by unfold wt;rw[if_pos hF,if_pos hl2];rfl) (((sA.trans s5).trans s6).free hp) (h7.back (((sA.trans s5).trans s6).trans sM))
 have hl3:¬ws.length=2:=fun q=>h4 (decide_eq_true (by rw[q];rfl))
 walk_at "rd"
 refine jH (fun h5=>mE ((k _ sA).1 ?_)) (fun h5=>?_)
 ·unfold wt
  rw[if_pos hF,if_neg hl3,if_pos (.inl (Qt h5))]
 have hin:wd ws 2 = "in":=Qs h5
 walk_at "rd"
 intro lc H5 s5 hlc e5
 replace e5:H5 lc=some (.lst ((ws.drop 3).map V.str)):=by rw[←pM V.str ws 3];exact e5
 refine⟨lc,_,_,rfl,qD.of e5,hS.drop 3,fun H6 s6=>?_⟩
 walk_at "rd"
 refine jH (fun h6=>(k _ ((sA.trans s5).trans s6)).1 ?_) (fun h6=>?_)
 ·unfold wt
  rw[if_pos hF,if_neg hl3,if_pos (.inr (lY h6))]
 have hN:mw (ws.drop 3) 12=true:=lW h6
 have e6:H6 lw=some (.lst (ws.map V.str)):=s6 _ _ (s5 _ _ e4)
 clear e4 e5
 walk_at "rd"
 intro a1 H7 s7 ha1 e7
 replace e7:H7 a1=some (.lst ((ws.drop 3).map V.str)):=by rw[←pM V.str ws 3];exact e7
 walk_at "rd"
 intro a2 H8 s8 ha2 e8
 walk_at "rd"
 intro p dx hp hdx hne
 have sM:=wj (o:=HO.own p) (o2:=HO.ins t.qH dx []) hp hdx
 refine⟨p,dx,a1,a2,_,_,[],rfl,qx,sM _ _ (s8 _ _ e7),sM _ _ e8,fun H9 o9 h9=>⟨rfl,?_⟩⟩
 exact(k H9 (((((sA.trans s5).trans s6).trans s7).trans s8).trans (dN hp hdx o9))).2 p _ _ (by unfold wt;rw[if_pos hF,if_neg hl3,if_neg (fun q=>q.elim (fun q=>q hin) (fun q=>by rw[hN] at q;cases q))];rfl) (((((sA.trans s5).trans s6).trans s7).trans s8).free hp) (h9.back (((((sA.trans s5).trans s6).trans s7).trans s8).trans sM))
theorem fK:qo ["row","words"] ["row"] (z4 jI):=⟨rfl,rfl,rfl,by decide +kernel,rfl,by decide +kernel,by decide +kernel⟩
set_option maxHeartbeats 400000 in
theorem lH (T:Txt K mg t):qi P w K mg base jk 5 t.wI t.wL ["row"] (eE t):=by
 have G_v_fits_form:qi P w K mg base jk 4 t.kn t.kr ["words","form"] (oE K):=(gh T).mono (by decide)
 have G_v_number_of:qi P w K mg base jk 4 t.vc t.vf ["word"] Ks:=(fu T).mono (by decide)
 have M_Ban_init:qi P w K mg base jk 3 t.vK t.y0 ["self","label","who","act","room"] (Jn K):=(uZ T).mono (by decide)
 have M_Clause_init:qi P w K mg base jk 3 t.qE t.xk ["self","label","who","act"] (Jt K):=(kS T).mono (by decide)
 have M_Duty_init:qi P w K mg base jk 3 t.kC t.yh ["self","label","who","act","turns","room"] (YZ K):=(cv T).mono (by decide)
 have M_Power_init:qi P w K mg base jk 3 t.x9 t.vL ["self","label","who","act","room"] (Jn K):=(mD T).mono (by decide)
 refine T.yl.fn.ok fK (fun vs H Q E h=>(by obtain⟨_,rfl,_⟩:=h;rfl)) (fun cdv A outer s H vs Q E hr h=>?_)
 obtain⟨x,rfl,hx,k⟩:=h
 refine⟨_,(z6 (qZ (i:=1) fK.nd rfl (Or.inl rfl) (ji PySem.F.plainAttrs_str PySem.F.slot_str_split PySem.F.type_str_split bq (pv 0) (z0 qq z5)))
   (z6 (qP (xu (qm G_v_fits_form hr rfl T.qU.mg T.qU.fn.kp T.qU.bd .nil qQ (z0 (pv 1) (z0 (qF (z0 qq (z0 qq (z0 qq (z0 qq (z0 qq (z0 qq (z0 qq (z0 qq z5))))))))) z5))))
    (z8 (qw (xr T.rq M_Duty_init hr rfl T.oj T.fM.bd .nil qQ (z0 (qy (qf (K:=K) rfl) (pv 1) z7 (fun _ _=>rfl)) (z0 (qy (qf (K:=K) rfl) (pv 1) z7 (fun _ _=>rfl)) (z0 (qy (qf (K:=K) rfl) (pv 1) z7 (fun _ _=>rfl)) (z0 (qm G_v_number_of hr rfl T.x5.mg T.x5.fn.kp T.x5.bd .nil qQ (z0 (qy (qf (K:=K) rfl) (pv 1) z7 (fun _ _=>rfl)) z5)) (z0 (qy (qf (K:=K) rfl) (pv 1) z7 (fun _ _=>rfl)) z5)))))))) qr)
   (z6 (qP (xu (qm G_v_fits_form hr rfl T.qU.mg T.qU.fn.kp T.qU.bd .nil qQ (z0 (pv 1) (z0 (qF (z0 qq (z0 qq (z0 qq (z0 qq z5))))) z5))))
    (z8 (qw (xr T.dO M_Clause_init hr rfl T.dS T.kP.bd .nil qQ (z0 (qy (qf (K:=K) rfl) (pv 1) z7 (fun _ _=>rfl)) (z0 (qy (qf (K:=K) rfl) (pv 1) z7 (fun _ _=>rfl)) (z0 (qy (qf (K:=K) rfl) (pv 1) z7 (fun _ _=>rfl)) z5)))))) qr)
   (z6 (qP (xu (qm G_v_fits_form hr rfl T.qU.mg T.qU.fn.kp T.qU.bd .nil qQ (z0 (pv 1) (z0 (qF (z0 qq (z0 qq (z0 qq (z0 qq (z0 qq (z0 qq (z0 qq z5)))))))) z5))))
    (z8 (qw (xr T.ow M_Ban_init hr rfl T.Z6 T.dw.bd .nil qQ (z0 (qy (qf (K:=K) rfl) (pv 1) z7 (fun _ _=>rfl)) (z0 (qy (qf (K:=K) rfl) (pv 1) z7 (fun _ _=>rfl)) (z0 (qy (qf (K:=K) rfl) (pv 1) z7 (fun _ _=>rfl)) (z0 (qy (qf (K:=K) rfl) (pv 1) z7 (fun _ _=>rfl)) z5))))))) qr)
   (z6 (qP (xu (qm G_v_fits_form hr rfl T.qU.mg T.qU.fn.kp T.qU.bd .nil qQ (z0 (pv 1) (z0 (qF (z0 qq (z0 qq (z0 qq (z0 qq (z0 qq (z0 qq z5))))))) z5))))
    (z8 (qw (xr T.dI M_Power_init hr rfl T.u9 T.br.bd .nil qQ (z0 (qy (qf (K:=K) rfl) (pv 1) z7 (fun _ _=>rfl)) (z0 (qy (qf (K:=K) rfl) (pv 1) z7 (fun _ _=>rfl)) (z0 (qy (qf (K:=K) rfl) (pv 1) z7 (fun _ _=>rfl)) (z0 (qy (qf (K:=K) rfl) (pv 1) z7 (fun _ _=>rfl)) z5))))))) qr)
   (z8 (qw bN))))))),?_⟩
 walk_at "rd"
 refine⟨qj (by omega),?_⟩
 intro lw H1 s1 hlw e1
 have hS:=sv hx
 have e1':H1 lw=some (.lst ((yr x).map V.str)):=e1
 clear e1
 generalize yr x=ws at *
 walk_at "rd"
 intro lf H2 s2 hlf e2
 refine⟨lw,lf,ws,ZN,rfl,qD.of (s2 _ _ e1'),qD.of e2,hS,fun H3 s3=>?_⟩
 have e3:H3 lw=some (.lst (ws.map V.str)):=s3 _ _ (s2 _ _ e1')
 have sA:qk H H3:=(s1.trans s2).trans s3
 clear e1' e2 s1 s2 s3
 walk_at "rd"
 refine jH (fun h1=>?_) (fun h1=>?_)
 ·have hl:ws.length=8:=g8 h1
  walk_at "rd"
  refine⟨hS.short _ (dk (by omega)),fun H4 s4=>?_⟩
  have e4:H4 lw=some (.lst (ws.map V.str)):=s4 _ _ e3
  clear e3
  walk_at "rd"
  intro p dx hp hdx hne
  refine⟨p,_,dx,_,_,_,_,_,_,rfl,nS T,qx,rfl,?_⟩
  exact(k _ ((sA.trans s4).trans (ko hp hdx hne))).2 p 0 _ _ _ _ _ (by unfold jL;rw[if_pos h1];rfl) ((sA.trans s4).free hp) ⟨dx,qx⟩
 have f1:¬kW ws ZN=true:=h1
 walk_at "rd"
 intro lf2 H4 s4 hlf2 e4
 refine⟨lw,lf2,ws,nI,rfl,qD.of (s4 _ _ e3),qD.of e4,hS,fun H5 s5=>?_⟩
 have e5:H5 lw=some (.lst (ws.map V.str)):=s5 _ _ (s4 _ _ e3)
 have sB:qk H H5:=(sA.trans s4).trans s5
 clear e3 e4 s4 s5 sA
 walk_at "rd"
 refine jH (fun h2=>?_) (fun h2=>?_)
 ·have hl:ws.length=4:=g8 h2
  walk_at "rd"
  intro p dx hp hdx hne
  refine⟨p,_,dx,_,_,_,_,rfl,rV T,qx,rfl,?_⟩
  exact(k _ (sB.trans (ko hp hdx hne))).2 p 1 _ _ _ 0 "" (by unfold jL;rw[if_neg f1,if_pos h2];rfl) (sB.free hp) ⟨dx,qx⟩
 have f2:¬kW ws nI=true:=h2
 walk_at "rd"
 intro lf3 H6 s6 hlf3 e6
 refine⟨lw,lf3,ws,Vy,rfl,qD.of (s6 _ _ e5),qD.of e6,hS,fun H7 s7=>?_⟩
 have e7:H7 lw=some (.lst (ws.map V.str)):=s7 _ _ (s6 _ _ e5)
 have sC:qk H H7:=(sB.trans s6).trans s7
 clear e5 e6 s6 s7 sB
 walk_at "rd"
 refine jH (fun h3=>?_) (fun h3=>?_)
 ·have hl:ws.length=7:=g8 h3
  walk_at "rd"
  intro p dx hp hdx hne
  refine⟨p,_,dx,_,_,_,_,_,rfl,aQ T,qx,rfl,?_⟩
  exact(k _ (sC.trans (ko hp hdx hne))).2 p 2 _ _ _ 0 _ (by unfold jL;rw[if_neg f1,if_neg f2,if_pos h3];rfl) (sC.free hp) ⟨dx,qx⟩
 have f3:¬kW ws Vy=true:=h3
 walk_at "rd"
 intro lf4 H8 s8 hlf4 e8
 refine⟨lw,lf4,ws,aW,rfl,qD.of (s8 _ _ e7),qD.of e8,hS,fun H9 s9=>?_⟩
 have e9:H9 lw=some (.lst (ws.map V.str)):=s9 _ _ (s8 _ _ e7)
 have sD:qk H H9:=(sC.trans s8).trans s9
 clear e7 e8 s8 s9 sC
 walk_at "rd"
 refine jH (fun h4=>?_) (fun h4=>?_)
 ·have hl:ws.length=6:=g8 h4
  walk_at "rd"
  intro p dx hp hdx hne
  refine⟨p,_,dx,_,_,_,_,_,rfl,rW T,qx,rfl,?_⟩
  exact(k _ (sD.trans (ko hp hdx hne))).2 p 3 _ _ _ 0 _ (by unfold jL;rw[if_neg f1,if_neg f2,if_neg f3,if_pos h4];rfl) (sD.free hp) ⟨dx,qx⟩
 exact(k _ sD).1 (by unfold jL;rw[if_neg f1,if_neg f2,if_neg f3,if_neg h4])
end
theorem boot_set:bootBuiltins (Str.ofString "set")=some (Value.type "set"):=by kernel_rfl
noncomputable def KI (t:jt) (n:Int) (H:Hp):XK:=fun c o H'=>∃a,o=some a∧c=.ref t.yg∧qk H H'∧HV H' a t.yg [("row",.int n)]
theorem KI.back {t:jt} {n:Int} {H0 H:Hp} {c:Value} {o:Option Addr} {H':Hp} (h:KI t n H c o H') (s:qk H0 H):KI t n H0 c o H':=by
 obtain⟨a,h1,h2,h3,h4⟩:=h
 exact⟨a,h1,h2,s.trans h3,h4⟩
noncomputable def Jo (K:PySem.W.Frag) (f:Str):Sp:=fun vs H Q _=>∃(a C:Addr) (v:V),vs=[.ref a,v]∧V8 K C∧qW K C f∧H a=some (xN a C none)∧∀dx,H dx=none→dx≠a→Q .non (upd (upd H dx (xD dx [(f,v)])) a (xN a C (some dx)))
structure cC (rows:List Str):Prop where
 nE:rows.length≤400
 short:∀x∈rows,x.length≤190
noncomputable def wM (rows:List Str) (i:Nat) (x:Str) (m:Int) (taken:List Str):Option (List Str):=
 if i=rows.length then none else
  let ns:=vb (yr (wd rows i)) x m
  if ns=[]∨¬(taken ++ ns).Nodup then none else some ns
theorem WT {z:Str} {c:Nat} (h:has z c=true):c∈z.cps.toList:=by
 unfold has at h
 rw[StrLaws.found_one] at h
 simpa using h
theorem cq {x:Str} (h:qK x=true):asc x:=fun c hc=>by
 unfold qK pV at h
 (simp only[Bool.and_eq_true] at h)
 exact Z5.2.2 c (WT (List.all_eq_true.mp h.1.2 c hc))
theorem tS {ws:List Str} {x:Str} {m:Int}:(vb ws x m).length≤ws.length∧∀y∈vb ws x m,qK y=true:=by
 unfold vb
 split
 ·exact⟨Nat.zero_le _,fun y hy=>by cases hy⟩
 ·rename_i h
  refine⟨by rw[List.length_drop];omega,fun y hy=>?_⟩
  have:mw (ws.drop 1) m=true:=by
   cases q:mw (ws.drop 1) m with
   | true=>rfl
   | false=>exact absurd (.inr q) h
  unfold mw at this
  rw[Bool.and_eq_true] at this
  exact List.all_eq_true.mp this.2 y hy
noncomputable def Zu (K:PySem.W.Frag):Sp:=fun vs H Q _=>∃(l:Addr) (zs:List Str),vs=[.ref l]∧qD K H l (zs.map V.str)∧zs.length < 1000∧∀H',qk H H'→Q (.bl (decide zs.Nodup)) H'
noncomputable def GL (K:PySem.W.Frag) (t:jt):Sp:=fun vs H Q E=>∃(a b:Addr) (i:Nat) (x:Str) (m:Int) (rows taken:List Str),vs=[.ref a,.int i,.str x,.int m,.ref b]∧qD K H a (rows.map V.str)∧H b=some (.lst (taken.map V.str))∧i≤rows.length∧cC rows∧taken.length≤300∧m≤100∧
 (wM rows i x m taken=none→∀c o H',KI t i H c o H'→E c o H')∧∀ns l H',wM rows i x m taken=some ns→qk H H'→H l=none→H' l=some (.lst (ns.map V.str))→Q (.ref l) H'
section
variable {P:Program} {w:World} {K:PySem.W.Frag} {mg:Str→Option Value} {base:Heap} {t:jt}
theorem lN:qo ["self","row"] ["self","row"] (z4 jO):=⟨rfl,rfl,rfl,by decide +kernel,rfl,by decide +kernel,by decide +kernel⟩
set_option maxHeartbeats 400000 in
theorem gg (T:Txt K mg t):qi P w K mg base jk 1 t.xF t.ku ["self","row"] (Jo K "row"):=by
 refine T.xE.fn.ok lN (fun vs H Q E h=>(by obtain⟨_,_,_,rfl,_⟩:=h;rfl)) (fun cdv A outer s H vs Q E hr h=>?_)
 obtain⟨a,C,v,rfl,c,n,e,k⟩:=h
 exact⟨_,(z8 (VB (pv 0) (pv 1) rfl)),_,rfl,_,rfl,a,C,rfl,c,n,.inl ⟨e,k⟩⟩
theorem Ys {C:Addr} {f:Str} {v:V} {H:Hp} {E:XK} {X:XK} (c:V8 K C) (n:qW K C f) (xc:fF K C=true) (k:∀a H',qk H H'→HV H' a C [(f,v)]→E (.ref C) (some a) H') :
  ∀a,H a=none→Jo K f (.ref a :: ([v] ++ [])) (upd H a (xN a C none)) (fun u H2=>u=.non∧∃a' C' d,V.ref a=.ref a'∧fF K C'=true∧H2 a'=some (xN a' C' d)∧E (.ref C') (some a') (upd H2 a' (xO a' C' d))) X:=by
 intro a ha
 refine⟨a,C,v,rfl,c,n,qx,fun dx hd hne=>⟨rfl,a,C,some dx,rfl,xc,qx,k a _ (fun b o e=>?_) (.inr ⟨dx,qx,?_⟩)⟩⟩
 ·have q:=qv e ha
  have e':(upd H a (xN a C none)) b=some o:=by rw[qB q];exact e
  rw[qB q,qB q,qB (qv e' hd)];exact e'
 ·rw[qB hne,qB hne];exact qx
theorem bO (T:Txt K mg t) {n:Int} {H:Hp} {E:XK} {X:XK} (k:∀c o H',KI t n H c o H'→E c o H') :
  ∀a,H a=none→Jo K "row" (.ref a :: ([V.int n] ++ [])) (upd H a (xN a t.yg none)) (fun u H2=>u=.non∧∃a' C' d,V.ref a=.ref a'∧fF K C'=true∧H2 a'=some (xN a' C' d)∧E (.ref C') (some a') (upd H2 a' (xO a' C' d))) X:=
 Ys T.nY T.mF T.vM.xc fun a H' s x=>k _ _ _ ⟨a,rfl,rfl,s,x⟩
theorem lA:qo ["names"] ["names"] (z4 jA):=⟨rfl,rfl,rfl,by decide +kernel,rfl,by decide +kernel,by decide +kernel⟩
set_option maxHeartbeats 400000 in
theorem fo (T:Txt K mg t):qi P w K mg base jk 1 t.vt t.vm ["names"] (Zu K):=by
 refine T.x6.fn.ok lA (fun vs H Q E h=>(by obtain⟨_,_,rfl,_⟩:=h;rfl)) (fun cdv A outer s H vs Q E hr h=>?_)
 obtain⟨l,zs,rfl,hl,hn,k⟩:=h
 refine⟨_,(z8 (qw (va jd (qC QW rfl T.vY PySem.boot_len (z0 (jn (Ve (K:=K) rfl rfl) rfl T.V9 boot_set (z0 (pv 0) z5)) z5)) (qC (jG (K:=K) rfl) rfl T.vY PySem.boot_len (z0 (pv 0) z5)) (qe _)))),?_⟩
 refine⟨_,rfl,l,zs,rfl,hl,hn,fun a ha=>?_⟩
 refine⟨a,_,rfl,qx,?_⟩
 have s1:qk H (upd H a (Y0 P w a (iH [] zs))):=qk.og ha
 refine⟨_,rfl,l,_,rfl,.inl (s1.seq hl),rfl,?_⟩
 rw[show decide (V.int ((iH [] zs:Nat):Int)=V.int ((zs.map V.str).length:Nat))=decide zs.Nodup from by rw[List.length_map,←WB];simp]
 exact k _ s1
theorem pQ:qo ["rows","number","word","most","taken","names"] ["rows","number","word","most","taken"] (z4 jX):=⟨rfl,rfl,rfl,by decide +kernel,rfl,by decide +kernel,by decide +kernel⟩
set_option maxHeartbeats 400000 in
theorem uF (T:Txt K mg t):qi P w K mg base (ar P w) 6 t.vA t.vT ["rows","number","word","most","taken"] (GL K t):=by
 have G_v_names_of:qi P w K mg base jk 5 t.yP t.yY ["row","word","most"] Wl:=(sL T).mono (by decide)
 have G_v_told_once:qi P w K mg base jk 5 t.vt t.vm ["names"] (Zu K):=(fo T).mono (by decide)
 have M_NoText_init:qi P w K mg base jk 4 t.xF t.ku ["self","row"] (Jo K "row"):=(gg T).mono (by decide)
 refine T.xH.fn.Hf pQ (fun vs H Q E h=>(by obtain⟨_,_,_,_,_,_,_,rfl,_⟩:=h;rfl)) (fun cdv A outer s H vs Q E hr h=>?_)
 obtain⟨a,b,i,x,m,rows,taken,rfl,hA,hB,hi,hR,hT,hm,kE,kQ⟩:=h
 refine⟨_,(z6 (qP (ql jd (pv 1) (qC (jG (K:=K) rfl) rfl T.vY PySem.boot_len (z0 (pv 0) z5)) (qe _))
    (z8 (bh fA rfl (bj T.vM M_NoText_init hr rfl T.y7 T.xE.bd .nil qQ (z0 (pv 1) z5)))) qr)
   (z6 (qZ (i:=5) pQ.nd rfl (Or.inl rfl) (qm G_v_names_of hr rfl T.gm.mg T.gm.fn.kp T.gm.bd .nil qQ (z0 (qy (qf (K:=K) rfl) (pv 0) (pv 1) (fun _ _=>rfl)) (z0 (pv 2) (z0 (pv 3) z5)))))
   (z6 (qP (PW.pt (gp (ql (oQ (K:=K) rfl hr.units) (pv 5) (qF z5) (qe _)) (wC (yX (xu (qm G_v_told_once hr rfl T.x6.mg T.x6.fn.kp T.x6.bd .nil qQ (z0 (qg wD (pv 4) (pv 5)) z5)))))))
    (z8 (bh fA rfl (bj T.vM M_NoText_init hr rfl T.y7 T.xE.bd .nil qQ (z0 (pv 1) z5)))) qr)
   (z8 (qw (pv 5)))))),?_⟩
 walk_at "rd"
 refine⟨a,_,rfl,.inl hA,rfl,_,rfl,?_⟩
 refine jH (fun h1=>?_) (fun h1=>?_)
 ·walk_at "rd"
  exact bO T (kE (by
   have:(i:Int)=((rows.map V.str).length:Nat):=by simpa using h1
   rw[List.length_map] at this
   unfold wM;rw[if_pos (by omega)]))
 have hi':i < rows.length:=by
  have:¬(i:Int)=((rows.map V.str).length:Nat):=by simpa using h1
  rw[List.length_map] at this;omega
 have hwd:wd rows i∈rows:=dk hi'
 have eR:wM rows i x m taken=(if vb (yr (wd rows i)) x m=[]∨¬(taken ++ vb (yr (wd rows i)) x m).Nodup then none else some (vb (yr (wd rows i)) x m)):=by
  unfold wM;rw[if_neg (by omega)]
 walk_at "rd"
 simp only[Int.toNat_natCast]
 refine⟨hR.short _ hwd,fun l H1 s1 hl e1=>?_⟩
 have e1':H1 l=some (.lst ((vb (yr (wd rows i)) x m).map V.str)):=e1
 clear e1
 have hn:=@tS (yr (wd rows i)) x m
 have hw:=(rf (wd rows i)).2
 have hw2:=hR.short _ hwd
 have hb:(vb (yr (wd rows i)) x m).length≤192:=by omega
 have ho:=hn.2
 clear hn hw hw2
 generalize vb (yr (wd rows i)) x m=ns at *
 have sh:SeqAt.shaped (.list (ns.map PyData.str))=true:=kA fun y hy=>(cq (ho y hy)).ok
 walk_at "rd"
 intro l2 H2 s2 hl2 e2
 have sh0:SeqAt.shaped (.list (([]:List Str).map PyData.str))=true:=kA (xs:=[]) fun y hy=>by cases hy
 refine⟨_,_,dg.lst (qD.of (s2 _ _ e1')) (yv.strs ns),dg.lst (qD.of e2) (yv.strs []),sh,sh0,_,rfl,?_⟩
 rw[di]
 refine jH (fun h2=>?_) (fun h2=>?_)
 ·walk_at "rd"
  exact bO T fun c o H' z=>kE (by rw[eR,if_pos (.inl (of_decide_eq_true h2))]) c o H' (z.back (s1.trans s2))
 have hne:¬ns=[]:=fun q=>h2 (decide_eq_true q)
 walk_at "rd"
 refine⟨b,l,_,_,rfl,rfl,s2 _ _ (s1 _ _ hB),s2 _ _ e1',qj (by simp only[List.length_map];omega),?_⟩
 intro l3 H3 s3 hl3 e3
 refine⟨l3,taken ++ ns,rfl,qD.of (by rw[e3,List.map_append]),(by rw[List.length_append];omega),fun H4 s4=>?_⟩
 have sA:qk H H4:=((s1.trans s2).trans s3).trans s4
 walk_at "rd"
 refine jH (fun h3=>?_) (fun h3=>?_)
 ·walk_at "rd"
  exact bO T fun c o H' z=>kE (by rw[eR,if_pos (.inr (of_decide_eq_false (lY h3)))]) c o H' (z.back sA)
 walk_at "rd"
 exact kQ ns l H4 (by rw[eR,if_neg (fun q=>q.elim hne (fun q=>q (of_decide_eq_true (lW h3))))]) sA hl (s4 _ _ (s3 _ _ (s2 _ _ e1')))
noncomputable def xT (taken:List Str):List (Str × Str)→List Str→Except Nat (List (Str × Str))
 | found,[]=>if found=[] then .error 2 else .ok found
 | found,x :: r=>match fZ (yr x) with
  | none=>if found=[] then .error 2 else .ok found
  | some mn=>if found.length=12∨¬(taken ++ (found ++ [mn]).map (·.2)).Nodup then .error (2 + found.length) else xT taken (found ++ [mn]) r
noncomputable def wo (H:Hp) (v:V) (mn:Str × Str):Prop:=∃p,v=.ref p∧H p=some (.tup [.str mn.1,.str mn.2])
noncomputable def dh (mn:Str × Str):Prop:=mn.1∈xo∧qK mn.2=true
theorem X4 {ws:List Str} {m n:Str} (h:fZ ws=some (m,n)):dh (m,n):=by
 unfold fZ at h
 split at h
 ·rename_i q
  cases h
  rw[uI] at q
  exact⟨of_decide_eq_true q.2.1,q.2.2⟩
 ·cases h
theorem Xe:∀x∈xo,PyData.strOk x=true:=by decide +kernel
noncomputable def nh (mn:Str × Str):PyData:=.tuple [.str mn.1,.str mn.2]
theorem X2:∀{fnd:List (Str × Str)},(∀mn∈fnd,dh mn)→PyData.canLayAll0 (fnd.map nh)=true∧PyData.depthAll (fnd.map nh)≤2
 | [],_=>⟨rfl,Nat.zero_le _⟩
 | mn :: r,h=>by
  have q:=X2 (fnd:=r) fun x hx=>h x (List.mem_cons_of_mem _ hx)
  have h1:=Xe _ (h mn List.mem_cons_self).1
  have h2:=(cq (h mn List.mem_cons_self).2).ok
  have q2:=q.2
  simp [PyData.canLayAll0,PyData.canLay0,PyData.depthAll,PyData.depth,nh,q.1,h1,h2]
  omega
theorem Jb {fnd:List (Str × Str)} (h:∀mn∈fnd,dh mn):SeqAt.shaped (.list (fnd.map nh))=true:=by
 have q:=X2 h
 simp [SeqAt.shaped,PyData.canLay0,PyData.depth,q.1]
 omega
theorem wo.same {H H':Hp} {v:V} {mn:Str × Str} (h:wo H v mn) (s:qk H H'):wo H' v mn:=by
 obtain⟨p,e,q⟩:=h
 exact⟨p,e,s _ _ q⟩
theorem wo.keeps {H H':Hp} {v:V} {mn:Str × Str} {l:Addr} {xs:List V} (h:wo H v mn) (k:Keeps l H H') (e:H l=some (.lst xs)):wo H' v mn:=by
 obtain⟨p,e',q⟩:=h
 exact⟨p,e',k.look q (yV q e (by intro z;cases z))⟩
theorem Paired.snoc {α β:Type} {F:α→β→Prop} {a:α} {b:β}:∀{xs:List α} {ys:List β},Paired F xs ys→F a b→Paired F (xs ++ [a]) (ys ++ [b])
 | [],[],_,h=>.cons h .nil
 | _ :: _,_ :: _,.cons h t,q=>.cons h (Paired.snoc t q)
noncomputable def YC (H:Hp) (y:V):List (Option V):=match y with
 | .ref p=>(match H p with | some (.tup [u,v])=>[some u,some v] | _=>[none,none])
 | _=>[none,none]
theorem V2 (H:Hp) (y:V):(YC H y).length=2:=by
 unfold YC
 split
 ·split<;>rfl
 ·rfl
theorem Paired.W4 {α β:Type} {F:α→β→Prop} {a:α}:∀{xs:List α} {ys:List β},Paired F xs ys→a∈xs→∃b∈ys,F a b
 | _ :: _,_ :: _,.cons h t,q=>by
  rcases List.mem_cons.mp q with rfl | q
  ·exact⟨_,List.mem_cons_self,h⟩
  ·obtain⟨b,hb,hF⟩:=Paired.W4 t q
   exact⟨b,List.mem_cons_of_mem _ hb,hF⟩
theorem lU {H:Hp}:∀{vs:List V} {fnd:List (Str × Str)} {ys:List V},Paired (wo H) vs fnd→Paired (fun y v=>∀p m n,y=V.ref p→H p=some (.tup [.str m,.str n])→v=V.str n) vs ys→ys=(fnd.map (·.2)).map V.str
 | [],[],[],_,_=>rfl
 | _ :: _,_ :: _,_ :: _,.cons ⟨p,e,q⟩ t,.cons h t'=>by
  rw[h p _ _ e q,lU t t']
  rfl
theorem eK {K:PySem.W.Frag} {H:Hp}:∀{vs:List V} {fnd:List (Str × Str)},Paired (wo H) vs fnd→yv K H vs (fnd.map nh)
 | [],[],_=>.nil
 | _ :: _,_ :: _,.cons ⟨p,e,q⟩ t=>by
  subst e
  exact .cons (dg.tup (yy.of q) (.cons (.str _) (.cons (.str _) .nil))) (eK t)
theorem Yi (fnd:List (Str × Str)):PyData.eqv (.list (fnd.map nh)) (.list (([]:List Str).map PyData.str))=decide (fnd=[]):=by
 cases fnd<;>simp [PyData.eqv,PyData.eqvAll]
noncomputable def GS (K:PySem.W.Frag) (t:jt):Sp:=fun vs H Q E=>∃(a b:Addr) (rows taken:List Str),vs=[.ref a,.ref b]∧qD K H a (rows.map V.str)∧H b=some (.lst (taken.map V.str))∧cC rows∧taken.length≤400∧
 (∀n:Nat,xT taken [] (rows.drop 2)=.error n→∀c o H',KI t n H c o H'→E c o H')∧∀rs l H' vs,xT taken [] (rows.drop 2)=.ok rs→qk H H'→H l=none→H' l=some (.lst vs)→Paired (wo H') vs rs→Q (.ref l) H'
theorem vZ:qo ["rows","taken","rooms","row","room"] ["rows","taken"] (z4 ju):=⟨rfl,rfl,rfl,by decide +kernel,rfl,by decide +kernel,by decide +kernel⟩
set_option maxHeartbeats 400000 in
theorem uM (T:Txt K mg t):qi P w K mg base (ar P w) 6 t.v7 t.vN ["rows","taken"] (GS K t):=by
 have G_v_room_of:qi P w K mg base jk 5 t.gK t.gQ ["row"] Ko:=(oZ T).mono (by decide)
 have G_v_told_once:qi P w K mg base jk 5 t.vt t.vm ["names"] (Zu K):=(fo T).mono (by decide)
 have M_NoText_init:qi P w K mg base jk 4 t.xF t.ku ["self","row"] (Jo K "row"):=(gg T).mono (by decide)
 refine T.wJ.fn.Hf vZ (fun vs H Q E h=>(by obtain⟨_,_,_,_,rfl,_⟩:=h;rfl)) (fun cdv A outer s H vs Q E hr h=>?_)
 obtain⟨a,b,rows,taken,rfl,hA,hB,hR,hT,kE,kQ⟩:=h
 refine⟨_,(z6 (qZ (i:=2) vZ.nd rfl (Or.inl rfl) (qF z5) vQ)
   (z6 (PS.join (yJ PassesOwn.leaving rfl (vo (K:=K) rfl (kT (kL (K:=K) rfl) (pv 0) (xi (jD rfl (T.wq).choose_spec (v:=.int 2) ⟨_,rfl⟩)) gP)) (jC (i:=3) vZ.nd rfl (Or.inl rfl))
    (z6 (qZ (i:=4) vZ.nd rfl (Or.inl rfl) (qm G_v_room_of hr rfl T.bc.mg T.bc.fn.kp T.bc.bd .nil qQ (z0 (pv 3) z5)))
   (z6 (qP (ql XM (pv 4) bN (qe _))
    (z8 (XI)) qr)
   (z6 (qP (PW.pt (gp (ql jd (qC (jG (K:=K) rfl) rfl T.vY PySem.boot_len (z0 (pv 2) z5)) (jD rfl (T.bM).choose_spec (v:=.int 12) ⟨_,rfl⟩) (qe _)) (wC (yX (xu (qm G_v_told_once hr rfl T.x6.mg T.x6.fn.kp T.x6.bd .nil qQ (z0 (qg wD (pv 1) (ng (osc:=z4 ju) (N:=["rows","taken","rooms","row","room"]) (xs:=["mark","name"]) (names:=[]) (qN:=[]) rfl rfl rfl ⟨rfl,by decide +kernel,by decide +kernel,by decide +kernel,by decide +kernel,rfl,by decide +kernel,by decide +kernel⟩ (vo (K:=K) rfl (qg wD (pv 2) (qF (z0 (pv 4) z5)))) (fun _ _ _=>(cc (K:=K) (n:=2) rfl rfl (kN (jC (i:=0) (show (["mark","name"]:List Str).Nodup from by decide +kernel) rfl (.inl (iI rfl)) (.inr (iI rfl))) (kN (jC (i:=1) (show (["mark","name"]:List Str).Nodup from by decide +kernel) rfl (.inl (iI rfl)) (.inr (iI rfl))) cu)) rfl rfl)) (fun _ _ _=>Qy) (fun _ _ _=>(pv 1)))) z5)))))))
    (z8 (bh fA rfl (bj T.vM M_NoText_init hr rfl T.y7 T.xE.bd .nil qQ (z0 (qg ka (jD rfl (T.wq).choose_spec (v:=.int 2) ⟨_,rfl⟩) (qC (jG (K:=K) rfl) rfl T.vY PySem.boot_len (z0 (pv 2) z5))) z5)))) qr)
   (z8 (q0 (ji PySem.F.plainAttrs_list PySem.F.slot_list_append PySem.F.type_list_append jv (pv 2) (z0 (pv 4) z5)))))))))
   (z6 (qP (ql (oQ (K:=K) rfl hr.units) (pv 2) (qF z5) (qe _))
    (z8 (bh fA rfl (bj T.vM M_NoText_init hr rfl T.y7 T.xE.bd .nil qQ (z0 (jD rfl (T.wq).choose_spec (v:=.int 2) ⟨_,rfl⟩) z5)))) qr)
   (z8 (qw (pv 2)))))),?_⟩
 refine⟨Nat.zero_le _,?_⟩
 intro l H1 s1 hl e1
 refine⟨fun σ' H'=>(∃(vs:List V) (fnd:List (Str × Str)) (v3 v4:Option V),σ'=[some (.ref a),some (.ref b),some (.ref l),v3,v4]∧qk H H'∧H' l=some (.lst vs)∧Paired (wo H') vs fnd∧fnd.length≤12∧(∀mn∈fnd,dh mn)∧xT taken [] (rows.drop 2)=(if fnd=[] then .error 2 else .ok fnd))∨False,?_,?_⟩
 ·walk_at "rd"
  intro l0 H2 s2 hl0 e2
  have e2':H2 l0=some (.lst ((rows.drop 2).map V.str)):=by rw[←pM V.str rows 2];exact e2
  clear e2
  walk_at "rd"
  have hne0:l0≠l:=Ne.symm (qv e1 hl0)
  refine pL (K:=K) (a:=l0) (xs:=(rows.drop 2).map V.str) (fun i σ H'=>∃(vs:List V) (fnd:List (Str × Str)) (v3 v4:Option V),σ=[some (.ref a),some (.ref b),some (.ref l),v3,v4]∧qk H H'∧H' l=some (.lst vs)∧H' l0=some (.lst ((rows.drop 2).map V.str))∧Paired (wo H') vs fnd∧fnd.length≤12∧(∀mn∈fnd,dh mn)∧xT taken [] (rows.drop 2)=xT taken fnd ((rows.drop 2).drop i))
   ⟨[],[],none,none,rfl,s1.trans s2,s2 _ _ e1,e2',.nil,Nat.zero_le _,fun _ z=>(by cases z),by rw[List.drop_zero]⟩ (fun i σ H' _ ⟨_,_,_,_,_,_,_,q,_⟩=>qD.of q) ?_ ?_
  ·rintro i y σ H3 hi ⟨vs,fnd,v3,v4,rfl,s3,e3,e30,hP,hf,jc,hr'⟩
   rw[List.getElem?_map] at hi
   cases q:(rows.drop 2)[i]? with
   | none=>rw[q] at hi;cases hi
   | some x=>
    rw[q] at hi
    cases hi
    have hx:x∈rows:=List.mem_of_mem_drop (List.mem_of_getElem? q)
    have hd:(rows.drop 2).drop i=x :: (rows.drop 2).drop (i + 1):=by
     obtain⟨hi',e⟩:=List.getElem?_eq_some_iff.mp q
     rw[←e];exact List.drop_eq_getElem_cons hi'
    rw[hd] at hr'
    walk_at "rd"
    refine⟨hR.short _ hx,fun H4 s4=>⟨fun h0=>?_,fun p m n h0 hp e4=>?_⟩⟩
    ·walk_at "rd"
     refine .inl ⟨vs,fnd,_,_,rfl,s3.trans s4,s4 _ _ e3,Paired.imp' (fun _ _ z=>z.same s4) hP,hf,jc,?_⟩
     rw[hr',xT,h0]
    ·have hP4:Paired (wo H4) (vs ++ [.ref p]) (fnd ++ [(m,n)]):=Paired.snoc (Paired.imp' (fun _ _ z=>z.same s4) hP) ⟨p,rfl,e4⟩
     have hlen:vs.length=fnd.length:=Paired.length hP
     have eRR:xT taken fnd (x :: List.drop (i + 1) (List.drop 2 rows))=if fnd.length=12∨¬(taken ++ (fnd ++ [(m,n)]).map (·.2)).Nodup then .error (2 + fnd.length) else xT taken (fnd ++ [(m,n)]) (List.drop (i + 1) (List.drop 2 rows)):=by rw[xT,h0]
     rw[eRR] at hr'
     have e34:=s4 _ _ e3
     have raise2:(fnd.length=12∨¬(taken ++ (fnd ++ [(m,n)]).map (·.2)).Nodup)→∀c o H',KI t (2 + (vs.length:Nat):Int) H c o H'→E c o H':=fun z c o H' q=>kE (2 + fnd.length) (by rw[hr',if_pos z]) c o H' (by rw[←hlen];exact q)
     walk_at "rd"
     refine⟨l,_,rfl,.inl (qD.of e34),rfl,_,rfl,?_⟩
     refine jH (fun h12=>?_) (fun h12=>?_)
     ·walk_at "rd"
      refine⟨l,_,rfl,.inl (qD.of e34),?_⟩
      walk_at "rd"
      exact bO T fun c o H' z=>raise2 (.inl (by
       have:((vs.length:Nat):Int)=12:=by simpa using h12
       omega)) c o H' (z.back (s3.trans s4))
     have hn12:¬fnd.length=12:=fun q=>h12 (by rw[hlen,q];rfl)
     walk_at "rd"
     intro l5 H5 s5 hl5 e5
     refine⟨l,l5,_,_,rfl,rfl,s5 _ _ e34,e5,qj (by simp only[List.length_cons,List.length_nil];omega),?_⟩
     intro l6 H6 s6 hl6 e6
     have hP6:Paired (wo H6) (vs ++ [.ref p]) (fnd ++ [(m,n)]):=Paired.imp' (fun _ _ z=>z.same (s5.trans s6)) hP4
     refine⟨l6,rfl,⟨_,qD.of e6⟩,QH (uj (qD.of e6)) (YC H6) (V2 H6) (fun y v=>∀p m n,y=V.ref p→H6 p=some (.tup [.str m,.str n])→v=V.str n) (qj (by rw[List.length_append];simp only[List.length_cons,List.length_nil];omega)) ?_ ?_ ?_⟩
     ·intro j y ts H' K' hy hts s' k'
      obtain⟨mn,_,p',rfl,ep⟩:=Paired.W4 hP6 (List.mem_of_getElem? hy)
      have et:YC H6 (.ref p')=[some (.str mn.1),some (.str mn.2)]:=by unfold YC;simp only[ep]
      rw[et] at k'
      match ts,hts with
      | [t1,t2],_=>exact⟨p',_,rfl,yy.of (s' _ _ ep),rfl,_,_,rfl,_,_,rfl,rfl,k'⟩
     ·intro j y H' Q' hy s' kk
      obtain⟨mn,_,p',rfl,ep⟩:=Paired.W4 hP6 (List.mem_of_getElem? hy)
      have et:YC H6 (.ref p')=[some (.str mn.1),some (.str mn.2)]:=by unfold YC;simp only[ep]
      rw[et]
      refine⟨_,rfl,kk _ _ (qk.refl _) fun p2 m2 n2 e q=>?_⟩
      cases e
      rw[ep] at q
      cases q
      rfl
     intro D H7 ys s7 hD e7 hPr
     rw[lU hP6 hPr] at e7
     have sA:qk H H7:=(((s3.trans s4).trans s5).trans s6).trans s7
     walk_at "rd"
     refine⟨b,D,_,_,rfl,rfl,sA _ _ hB,e7,qj (by simp only[List.length_map,List.length_append,List.length_cons,List.length_nil];omega),?_⟩
     intro l8 H8 s8 hl8 e8
     refine⟨l8,taken ++ (fnd ++ [(m,n)]).map (·.2),rfl,qD.of (by rw[e8,←List.map_append]),(by simp only[List.length_map,List.length_append,List.length_cons,List.length_nil];omega),fun H9 s9=>?_⟩
     have sB:qk H4 H9:=(((s5.trans s6).trans s7).trans s8).trans s9
     walk_at "rd"
     refine jH (fun h3=>?_) (fun h3=>?_)
     ·walk_at "rd"
      refine⟨l,_,rfl,.inl (qD.of (sB _ _ e34)),?_⟩
      walk_at "rd"
      exact bO T fun c o H' z=>raise2 (.inr (of_decide_eq_false (lY h3))) c o H' (z.back ((s3.trans s4).trans sB))
     walk_at "rd"
     intro H10 k10 e10
     have e9l:=sB _ _ e34
     refine⟨vs ++ [.ref p],fnd ++ [(m,n)],_,_,rfl,k10.put ((s3.trans s4).trans sB) hl,e10,k10.look (sB _ _ (s4 _ _ e30)) (fun q=>?_),Paired.imp' (fun _ _ z=>(z.same sB).keeps k10 e9l) hP4,(by rw[List.length_append];simp only[List.length_cons,List.length_nil];omega),(fun z hz=>(List.mem_append.mp hz).elim (jc z) (fun hz=>by rw[List.mem_singleton.mp hz];exact X4 h0)),?_⟩
     ·exact hne0 q
     ·rw[hr',if_neg (fun q=>q.elim hn12 (fun q=>q (of_decide_eq_true (lW h3))))]
  ·rintro σ H3 ⟨vs,fnd,v3,v4,rfl,s3,e3,e30,hP,hf,jc,hr'⟩
   rw[List.length_map,List.drop_length,xT] at hr'
   exact .inl ⟨vs,fnd,v3,v4,rfl,s3,e3,hP,hf,jc,hr'⟩
 ·rintro σ H3 (⟨vs,fnd,v3,v4,rfl,s3,e3,hP,hf,jc,hr'⟩ | ⟨⟨⟩⟩)
  walk_at "rd"
  intro l4 H4 s4 hl4 e4
  have sh0:SeqAt.shaped (.list (([]:List Str).map PyData.str))=true:=kA (xs:=[]) fun y hy=>by cases hy
  have hP4:Paired (wo H4) vs fnd:=Paired.imp' (fun _ _ z=>z.same s4) hP
  refine⟨_,_,dg.lst (qD.of (s4 _ _ e3)) (eK hP4),dg.lst (qD.of e4) (yv.strs []),Jb jc,sh0,_,rfl,?_⟩
  rw[Yi]
  refine jH (fun h2=>?_) (fun h2=>?_)
  ·walk_at "rd"
   exact bO T fun c o H' z=>kE 2 (by rw[hr',if_pos (of_decide_eq_true h2)]) c o H' (z.back (s3.trans s4))
  walk_at "rd"
  exact kQ fnd l H4 vs (by rw[hr',if_neg (fun q=>h2 (decide_eq_true q))]) (s3.trans s4) hl (s4 _ _ e3) hP4
end
inductive Rw where
 | lt (n v:Str)
 | cl (k:Int) (l u a:Str) (n:Int) (r:Str)
 | pt (n:Str) (rs:List Str) (rows:List Rw)
mutual
noncomputable def xP (t:jt) (ms:List Addr) (H:Hp):Rw→V→Prop
 | .lt n v,x=>∃p,x=.ref p∧p∉ms∧V5 t H p n v
 | .cl k l u a n r,x=>∃p,x=.ref p∧p∉ms∧At t H p k l u a n r
 | .pt n rs rows,x=>∃p dx a b ys,x=.ref p∧p∉ms∧a∉ms∧b∉ms∧H p=some (.ins t.qH dx (nA n a b))∧H a=some (.lst (rs.map V.str))∧H b=some (.lst ys)∧jb t ms H rows ys
noncomputable def jb (t:jt) (ms:List Addr) (H:Hp):List Rw→List V→Prop
 | [],ys=>ys=[]
 | r :: rs,ys=>∃y ys',ys=y :: ys'∧xP t ms H r y∧jb t ms H rs ys'
end
noncomputable def Fm (ms:List Addr) (H H':Hp):Prop:=∀b o,b∉ms→H b=some o→H' b=some o
theorem Fm.trans {ms ms':List Addr} {H H1 H2:Hp} (a:Fm ms H H1) (b:Fm ms' H1 H2) (hm:∀b∈ms',b∈ms∨H b=none):Fm ms H H2:=fun c o hc e=>b c o (fun z=>(hm c z).elim hc (fun q=>by rw[e] at q;cases q)) (a c o hc e)
theorem Fm.of {ms:List Addr} {H H1:Hp} (s:qk H H1):Fm ms H H1:=fun c o _ e=>s _ _ e
theorem Fm.Ze {ms:List Addr} {H0 H H1:Hp} (a:Fm ms H H1) (s:qk H0 H) (h:∀b∈ms,H0 b=none):qk H0 H1:=fun c o e=>a c o (fun z=>by rw[h c z] at e;cases e) (s c o e)
theorem cj {ms ms':List Addr} {H:Hp} {b:Addr} {o:HO} (hm:∀b∈ms',b∈ms∨H b=none) (h:b∉ms) (e:H b=some o):b∉ms':=fun z=>(hm b z).elim h (fun q=>by rw[e] at q;cases q)
mutual
theorem xP.move {t:jt} {ms ms':List Addr} {H H':Hp} (hk:Fm ms H H') (hm:∀b∈ms',b∈ms∨H b=none):∀{r:Rw} {x:V},xP t ms H r x→xP t ms' H' r x
 | .lt n v,x,h=>by
  unfold xP at h ⊢
  obtain⟨p,e,hp,dx,q⟩:=h
  exact⟨p,e,cj hm hp q,dx,hk _ _ hp q⟩
 | .cl k l u a n r,x,h=>by
  unfold xP at h ⊢
  obtain⟨p,e,hp,dx,q⟩:=h
  exact⟨p,e,cj hm hp q,dx,hk _ _ hp q⟩
 | .pt n rs rows,x,h=>by
  unfold xP at h ⊢
  obtain⟨p,dx,a,b,ys,e,hp,ha,hb,e1,e2,e3,q⟩:=h
  exact⟨p,dx,a,b,ys,e,cj hm hp e1,cj hm ha e2,cj hm hb e3,hk _ _ hp e1,hk _ _ ha e2,hk _ _ hb e3,jb.move hk hm q⟩
theorem jb.move {t:jt} {ms ms':List Addr} {H H':Hp} (hk:Fm ms H H') (hm:∀b∈ms',b∈ms∨H b=none):∀{rs:List Rw} {ys:List V},jb t ms H rs ys→jb t ms' H' rs ys
 | [],ys,h=>by unfold jb at h ⊢;exact h
 | r :: rs,ys,h=>by
  unfold jb at h ⊢
  obtain⟨y,ys',e,h1,h2⟩:=h
  exact⟨y,ys',e,xP.move hk hm h1,jb.move hk hm h2⟩
end
theorem jb.snoc {t:jt} {ms:List Addr} {H:Hp} {r:Rw} {y:V} (h:xP t ms H r y):∀{rs:List Rw} {ys:List V},jb t ms H rs ys→jb t ms H (rs ++ [r]) (ys ++ [y])
 | [],ys,q=>by
  unfold jb at q
  subst q
  show jb t ms H [r] [y]
  unfold jb
  exact⟨y,[],rfl,h,by unfold jb;rfl⟩
 | r' :: rs,ys,q=>by
  unfold jb at q
  obtain⟨y',ys',rfl,h1,h2⟩:=q
  show jb t ms H (r' :: (rs ++ [r])) (y' :: (ys' ++ [y]))
  unfold jb
  exact⟨y',_,rfl,h1,jb.snoc h h2⟩
theorem jb.len {t:jt} {ms:List Addr} {H:Hp}:∀{rs:List Rw} {ys:List V},jb t ms H rs ys→ys.length=rs.length
 | [],ys,q=>by unfold jb at q;rw[q];rfl
 | r' :: rs,ys,q=>by
  unfold jb at q
  obtain⟨y',ys',rfl,h1,h2⟩:=q
  rw[List.length_cons,List.length_cons,jb.len h2]
noncomputable abbrev Fr:=Str × List Str × List Rw
noncomputable def pH (t:jt) (ms:List Addr) (H:Hp) (B:Nat):List Addr→List Addr→List Fr→Prop
 | [],[],[]=>True
 | p :: ps,q :: qs,(n,rs,rows) :: fr=>(∃dx a b,p∉ms∧a∉ms∧H p=some (.ins t.qH dx (nA n a b))∧H a=some (.lst (rs.map V.str)))∧(∃ys,H q=some (.lst ys)∧jb t ms H rows ys∧rows.length≤B)∧pH t ms H B ps qs fr
 | _,_,_=>False
noncomputable def aY (a b c:Addr):List (Str × V):=[("heads",.ref a),("bodies",.ref b),("labels",.ref c)]
noncomputable def KA (ls:List Str):List (Key × V):=ls.map fun l=>(.inr l,.bl true)
structure nG (t:jt) (H:Hp) (me dx hd bd lb:Addr) (hps bqs:List Addr) (fr:List Fr) (ls:List Str) (B:Nat):Prop where
 nd:(me :: hd :: bd :: lb :: bqs).Nodup
 se:H me=some (.ins t.qA dx (aY hd bd lb))
 hh:H hd=some (.lst (hps.map V.ref).reverse)
 hb:H bd=some (.lst (bqs.map V.ref).reverse)
 hl:H lb=some (.dK (KA ls))
 fa:pH t (me :: hd :: bd :: lb :: bqs) H B hps bqs fr
 nE:ls.length≤B
noncomputable def yx (t:jt) (H:Hp) (me:Addr) (fr:List Fr) (ls:List Str) (B:Nat) (ms:List Addr):Prop:=∃dx hd bd lb hps bqs,ms=me :: hd :: bd :: lb :: bqs∧nG t H me dx hd bd lb hps bqs fr ls B
theorem pH.len {t:jt} {ms:List Addr} {H:Hp} {B:Nat}:∀{ps qs:List Addr} {fr:List Fr},pH t ms H B ps qs fr→ps.length=fr.length∧qs.length=fr.length
 | [],[],[],_=>⟨rfl,rfl⟩
 | p :: ps,q :: qs,(n,rs,rows) :: fr,h=>by
  have:=pH.len h.2.2
  simp [this.1,this.2]
theorem pH.move {t:jt} {ms ms':List Addr} {H H':Hp} {B B':Nat} (hk:Fm ms H H') (hm:∀b∈ms',b∈ms∨H b=none) (hB:B≤B'):∀{ps qs:List Addr} {fr:List Fr},pH t ms H B ps qs fr→(∀q∈qs,∀o,H q=some o→H' q=some o)→pH t ms' H' B' ps qs fr
 | [],[],[],_,_=>True.intro
 | p :: ps,q :: qs,(n,rs,rows) :: fr,h,hq=>by
  obtain⟨⟨dx,a,b,h1,h2,h3,h4⟩,⟨ys,h5,h6,h7⟩,h8⟩:=h
  exact⟨⟨dx,a,b,cj hm h1 h3,cj hm h2 h4,hk _ _ h1 h3,hk _ _ h2 h4⟩,⟨ys,hq q List.mem_cons_self _ h5,h6.move hk hm,by omega⟩,pH.move hk hm hB h8 fun c hc=>hq c (List.mem_cons_of_mem _ hc)⟩
theorem pH.JW {t:jt} {ms:List Addr} {H:Hp} {B:Nat}:∀{ps qs:List Addr} {fr:List Fr},pH t ms H B ps qs fr→∀q∈qs,∃o,H q=some o
 | [],[],[],_,q,hq=>by cases hq
 | p :: ps,q :: qs,(n,rs,rows) :: fr,h,c,hc=>by
  obtain⟨_,⟨ys,h5,_,_⟩,h8⟩:=h
  (rcases List.mem_cons.mp hc with rfl | hc)
  ·exact⟨_,h5⟩
  ·exact pH.JW h8 c hc
theorem nG.JW {t:jt} {H:Hp} {me dx hd bd lb:Addr} {hps bqs:List Addr} {fr:List Fr} {ls:List Str} {B:Nat} (h:nG t H me dx hd bd lb hps bqs fr ls B):∀b∈me :: hd :: bd :: lb :: bqs,∃o,H b=some o:=by
 intro b hb
 simp only[List.mem_cons] at hb
 rcases hb with rfl | rfl | rfl | rfl | hb
 ·exact⟨_,h.se⟩
 ·exact⟨_,h.hh⟩
 ·exact⟨_,h.hb⟩
 ·exact⟨_,h.hl⟩
 ·exact h.fa.JW b hb
theorem pH.inv {t:jt} {ms:List Addr} {H:Hp} {B:Nat} {n:Str} {rs:List Str} {rows:List Rw} {fr:List Fr}:∀{hps bqs:List Addr},pH t ms H B hps bqs ((n,rs,rows) :: fr)→∃p ps q qs,hps=p :: ps∧bqs=q :: qs∧(∃dx a b,p∉ms∧a∉ms∧H p=some (.ins t.qH dx (nA n a b))∧H a=some (.lst (rs.map V.str)))∧(∃ys,H q=some (.lst ys)∧jb t ms H rows ys∧rows.length≤B)∧pH t ms H B ps qs fr
 | [],_,h=>by simp [pH] at h
 | _ :: _,[],h=>by simp [pH] at h
 | p :: ps,q :: qs,h=>⟨p,ps,q,qs,rfl,rfl,h.1,h.2.1,h.2.2⟩
section
variable {P:Program} {w:World} {K:PySem.W.Frag} {mg:Str→Option Value} {base:Heap} {t:jt}
end
noncomputable def oA (t:jt):Sp:=fun vs H Q _=>∃(self:Addr) (fr:List Fr) (ls:List Str) (B:Nat) (ms:List Addr),vs=[.ref self]∧yx t H self fr ls B ms∧Q (.int (((fr.length:Nat):Int) - 1)) H
noncomputable def Qr (t:jt):Sp:=fun vs H Q _=>∃(self:Addr) (y:V) (n:Str) (rs:List Str) (rows:List Rw) (fr:List Fr) (ls:List Str) (B:Nat) (ms:List Addr) (r:Rw),vs=[.ref self,y]∧yx t H self ((n,rs,rows) :: fr) ls B ms∧xP t ms H r y∧B < 1000∧∀H',Fm ms H H'→yx t H' self ((n,rs,rows ++ [r]) :: fr) ls (B + 1) ms→Q .non H'
noncomputable def sx (t:jt):Sp:=fun vs H Q _=>∃(self:Addr) (n:Str) (rs:List Str) (rows:List Rw) (fr:List Fr) (ls:List Str) (B:Nat) (ms:List Addr),vs=[.ref self]∧yx t H self ((n,rs,rows) :: fr) ls B ms∧B≤1000∧∀p H' ms',Fm ms H H'→(∀b∈ms',b∈ms)→yx t H' self fr ls B ms'→xP t ms' H' (.pt n rs rows) (.ref p)→Q (.ref p) H'
section
variable {P:Program} {w:World} {K:PySem.W.Frag} {mg:Str→Option Value} {base:Heap} {t:jt}
theorem b1:¬(("bodies" : Str) = "heads"):=by decide +kernel
theorem b2:¬(("labels" : Str) = "heads"):=by decide +kernel
theorem b3:¬(("labels" : Str) = "bodies"):=by decide +kernel
section
variable {H:Hp} {self dx hd bd lb:Addr} {hps bqs:List Addr} {fr:List Fr} {ls:List Str} {B:Nat}
theorem nG.f1 (h:nG t H self dx hd bd lb hps bqs fr ls B) (T:Txt K mg t):tf K H (.ref self) "heads" (.ref hd):=⟨self,_,dx,_,rfl,h.se,T.jM,T.wA,qI⟩
theorem nG.f2 (h:nG t H self dx hd bd lb hps bqs fr ls B) (T:Txt K mg t):tf K H (.ref self) "bodies" (.ref bd):=⟨self,_,dx,_,rfl,h.se,T.jM,T.kR,(qp b1).trans qI⟩
theorem nG.f3 (h:nG t H self dx hd bd lb hps bqs fr ls B) (T:Txt K mg t):tf K H (.ref self) "labels" (.ref lb):=⟨self,_,dx,_,rfl,h.se,T.jM,T.gk,(qp b2).trans ((qp b3).trans qI)⟩
end
theorem cX:qo ["self"] ["self"] (z4 jy):=⟨rfl,rfl,rfl,by decide +kernel,rfl,by decide +kernel,by decide +kernel⟩
set_option maxHeartbeats 400000 in
theorem wm (T:Txt K mg t):qi P w K mg base jk 1 t.vq t.wG ["self"] (oA t):=by
 refine T.kB.fn.ok cX (fun vs H Q E h=>(by obtain⟨_,_,_,_,_,rfl,_⟩:=h;rfl)) (fun cdv A outer s H vs Q E hr h=>?_)
 obtain⟨self,fr,ls,B,ms,rfl,⟨dx,hd,bd,lb,hps,bqs,rfl,h⟩,k⟩:=h
 refine⟨_,(z8 (qw (qg c8 (qC (jG (K:=K) rfl) rfl T.vY PySem.boot_len (z0 (qJ (K:=K) rfl (pv 0) rfl) z5)) z7))),?_⟩
 refine⟨_,rfl,_,h.f1 T,hd,_,rfl,.inl (qD.of h.hh),?_⟩
 refine⟨_,_,rfl,rfl,?_⟩
 have:(hps.map V.ref).reverse.length=fr.length:=by rw[List.length_reverse,List.length_map];exact h.fa.len.1
 rw[this]
 exact k
theorem lL:qo ["self","row"] ["self","row"] (z4 jT):=⟨rfl,rfl,rfl,by decide +kernel,rfl,by decide +kernel,by decide +kernel⟩
set_option maxHeartbeats 400000 in
theorem gy (T:Txt K mg t):qi P w K mg base jk 1 t.wO t.gS ["self","row"] (Qr t):=by
 refine T.yk.fn.ok lL (fun vs H Q E h=>(by obtain⟨_,_,_,_,_,_,_,_,_,_,rfl,_⟩:=h;rfl)) (fun cdv A outer s H vs Q E hr h=>?_)
 obtain⟨self,y,n,rs,rows,fr,ls,B,ms,r,rfl,⟨dx,hd,bd,lb,hps,bqs,rfl,h⟩,hr',hB,k⟩:=h
 refine⟨_,(z8 (q0 (ji PySem.F.plainAttrs_list PySem.F.slot_list_append PySem.F.type_list_append jv (qy (qf (K:=K) rfl) (qJ (K:=K) rfl (pv 0) rfl) (Qv ig z7) (fun _ _=>rfl)) (z0 (pv 1) z5)))),?_⟩
 obtain⟨nd,se,hh,hb,hl,fa,nE⟩:=id h
 obtain⟨p,ps,q,qs,rfl,rfl,f1,⟨ys,e1,e2,e3⟩,f3⟩:=fa.inv
 refine⟨_,rfl,_,h.f2 T,?_⟩
 refine⟨_,rfl,bd,_,_,.ref q,rfl,rfl,qD.of hb,(by rw[List.map_cons,List.reverse_cons];exact yO _ _),?_⟩
 have hq:q∈self :: hd :: bd :: lb :: q :: qs:=by simp
 refine⟨.inl ⟨rfl,_,qD.of e1⟩,_,rfl,q,ys,_,rfl,rfl,e1,qj (by have:=e2.len;omega),?_⟩
 intro H' k' e'
 have fm:Fm (self :: hd :: bd :: lb :: q :: qs) H H':=fun b o hb e=>by rw[k' b (fun z=>hb (by rw[z];exact hq))];exact e
 have ne:∀b,b∈self :: hd :: bd :: lb :: qs→b≠q:=fun b hx z=>by
  subst z
  simp only[List.nodup_cons,List.mem_cons,not_or] at nd hx
  rcases hx with hx | hx | hx | hx | hx
  ·exact nd.1.2.2.2.1 hx.symm
  ·exact nd.2.1.2.2.1 hx.symm
  ·exact nd.2.2.1.2.1 hx.symm
  ·exact nd.2.2.2.1.1 hx.symm
  ·exact nd.2.2.2.2.1 hx
 have hm:∀b∈self :: hd :: bd :: lb :: q :: qs,b∈self :: hd :: bd :: lb :: q :: qs∨H b=none:=fun b hb=>.inl hb
 refine k H' fm ⟨dx,hd,bd,lb,p :: ps,q :: qs,rfl,nd,?_,?_,?_,?_,⟨?_,⟨ys ++ [y],e',jb.snoc (hr'.move fm hm) (e2.move fm hm),?_⟩,f3.move fm hm (Nat.le_succ _) fun c hc o e=>by rw[k' c (ne c (by simp [hc]))];exact e⟩,by omega⟩
 ·rw[k' self (ne self (by simp))];exact se
 ·rw[k' hd (ne hd (by simp))];exact hh
 ·rw[k' bd (ne bd (by simp))];exact hb
 ·rw[k' lb (ne lb (by simp))];exact hl
 ·obtain⟨dx',a,b,g1,g2,g3,g4⟩:=f1
  exact⟨dx',a,b,g1,g2,fm _ _ g1 g3,fm _ _ g2 g4⟩
 ·rw[List.length_append];simp only[List.length_cons,List.length_nil];omega
theorem Gs {a b c d q:Addr} {qs:List Addr} (h:(a :: b :: c :: d :: q :: qs).Nodup):(a :: b :: c :: d :: qs).Nodup∧∀x∈a :: b :: c :: d :: qs,x≠q:=by
 have h':=h
 simp only[List.nodup_cons,List.mem_cons,not_or] at h ⊢
 refine⟨⟨⟨h.1.1,h.1.2.1,h.1.2.2.1,h.1.2.2.2.2⟩,⟨h.2.1.1,h.2.1.2.1,h.2.1.2.2.2⟩,⟨h.2.2.1.1,h.2.2.1.2.2⟩,h.2.2.2.1.2,h.2.2.2.2.2⟩,fun x hx z=>?_⟩
 subst z
 rcases hx with hx | hx | hx | hx | hx
 ·exact h.1.2.2.2.1 hx.symm
 ·exact h.2.1.2.2.1 hx.symm
 ·exact h.2.2.1.2.1 hx.symm
 ·exact h.2.2.2.1.1 hx.symm
 ·exact h.2.2.2.2.1 hx
theorem fJ:qo ["self","head"] ["self"] (z4 jS):=⟨rfl,rfl,rfl,by decide +kernel,rfl,by decide +kernel,by decide +kernel⟩
set_option maxHeartbeats 400000 in
theorem fb (T:Txt K mg t):qi P w K mg base jk 3 t.wN t.gL ["self"] (sx t):=by
 have M_Part_init:qi P w K mg base jk 1 t.xA t.kD ["self","name","rooms","rows"] (Kc K t):=(yF T).mono (by decide)
 refine T.gr.fn.ok fJ (fun vs H Q E h=>(by obtain⟨_,_,_,_,_,_,_,_,rfl,_⟩:=h;rfl)) (fun cdv A outer s H vs Q E hr h=>?_)
 obtain⟨self,n,rs,rows,fr,ls,B,ms,rfl,⟨dx,hd,bd,lb,hps,bqs,rfl,h⟩,hB,k⟩:=h
 refine⟨_,(z6 (qZ (i:=1) fJ.nd rfl (Or.inl rfl) (uz PySem.F.plainAttrs_list PySem.F.slot_list_pop PySem.F.type_list_pop aE (qJ (K:=K) rfl (pv 0) rfl)))
   (z8 (qw (xr T.bD M_Part_init hr rfl T.p9 T.vW.bd .nil qQ (z0 (qJ (K:=K) rfl (pv 1) rfl) (z0 (qJ (K:=K) rfl (pv 1) rfl) (z0 (uz PySem.F.plainAttrs_list PySem.F.slot_list_pop PySem.F.type_list_pop aE (qJ (K:=K) rfl (pv 0) rfl)) z5))))))),?_⟩
 obtain⟨nd,se,hh,hb,hl,fa,nE⟩:=id h
 obtain⟨p,ps,q,qs,rfl,rfl,⟨dx',a,b,g1,g2,g3,g4⟩,⟨ys,e1,e2,e3⟩,f3⟩:=fa.inv
 have JW:=h.JW
 refine⟨_,rfl,_,h.f1 T,?_⟩
 refine⟨.inl ⟨rfl,_,qD.of hh⟩,hd,_,.ref p,rfl,rfl,hh,(by rw[List.map_cons,List.reverse_cons];simp),?_⟩
 intro H1 k1 e1'
 rw[List.map_cons,List.reverse_cons,List.dropLast_concat] at e1'
 obtain⟨nd2,nq⟩:=Gs nd
 have nab:hd≠bd:=by simp only[List.nodup_cons,List.mem_cons,not_or] at nd;exact nd.2.1.1
 have nsh:self≠hd:=by simp only[List.nodup_cons,List.mem_cons,not_or] at nd;exact nd.1.1
 have nsb:self≠bd:=by simp only[List.nodup_cons,List.mem_cons,not_or] at nd;exact nd.1.2.1
 have nlh:lb≠hd:=by simp only[List.nodup_cons,List.mem_cons,not_or] at nd;exact fun z=>nd.2.1.2.1 z.symm
 have nlb:lb≠bd:=by simp only[List.nodup_cons,List.mem_cons,not_or] at nd;exact fun z=>nd.2.2.1.1 z.symm
 have ph:p≠hd:=fun z=>g1 (by rw[z];simp)
 have ah:a≠hd:=fun z=>g2 (by rw[z];simp)
 have p1:H1 p=some (.ins t.qH dx' (nA n a b)):=by rw[k1 p ph];exact g3
 have a1:H1 a=some (.lst (rs.map V.str)):=by rw[k1 a ah];exact g4
 have s1:H1 self=some (.ins t.qA dx (aY hd bd lb)):=by rw[k1 self nsh];exact se
 have b1':H1 bd=some (.lst ((q :: qs).map V.ref).reverse):=by rw[k1 bd (Ne.symm nab)];exact hb
 refine⟨_,rfl,_,⟨p,_,dx',_,rfl,p1,T.kJ,T.wg,qI⟩,?_⟩
 refine⟨_,rfl,_,⟨p,_,dx',_,rfl,p1,T.kJ,T.yz,(qp (fun z=>m2 z.symm)).trans qI⟩,?_⟩
 refine⟨_,rfl,_,⟨self,_,dx,_,rfl,s1,T.jM,T.kR,(qp b1).trans qI⟩,?_⟩
 refine⟨.inl ⟨rfl,_,qD.of b1'⟩,bd,_,.ref q,rfl,rfl,b1',(by rw[List.map_cons,List.reverse_cons];simp),?_⟩
 intro H2 k2 e2'
 rw[List.map_cons,List.reverse_cons,List.dropLast_concat] at e2'
 intro x dxx hx hdx hne
 have keep2:∀c o,c≠hd→c≠bd→H c=some o→H2 c=some o:=fun c o h1 h2 e=>by rw[k2 c h2,k1 c h1];exact e
 have keepm:∀c o,H2 c=some o→(upd (upd H2 dxx (HO.own x)) x (HO.ins t.qH dxx [])) c=some o:=wj hx hdx
 have ab:a≠bd:=fun z=>g2 (by rw[z];simp)
 have qh:q≠hd:=Ne.symm (nq hd (by simp))
 have qb':q≠bd:=Ne.symm (nq bd (by simp))
 refine⟨x,dxx,a,q,n,rs,ys,rfl,qx,keepm _ _ (keep2 _ _ ah ab g4),keepm _ _ (keep2 _ _ qh qb' e1),fun H3 o3 h3=>⟨rfl,?_⟩⟩
 obtain⟨dx3,qa,qb,r1,r2,r3,z1,z2⟩:=h3
 have keep3:∀c o,H2 c=some o→H3 c=some o:=fun c o e=>o3 c o (qv e hx) (keepm c o e)
 have ke:∀c o,c≠hd→c≠bd→H c=some o→H3 c=some o:=fun c o h1 h2 e=>keep3 c o (keep2 c o h1 h2 e)
 have h2h:H2 hd=some (.lst (ps.map V.ref).reverse):=by rw[k2 hd nab];exact e1'
 have sub:∀c∈self :: hd :: bd :: lb :: qs,c∈self :: hd :: bd :: lb :: q :: qs:=fun c hc=>by
  simp only[List.mem_cons] at hc ⊢
  rcases hc with z | z | z | z | z<;>simp [z]
 have fm:Fm (self :: hd :: bd :: lb :: q :: qs) H H3:=fun c o hc e=>ke c o (fun z=>hc (by rw[z];simp)) (fun z=>hc (by rw[z];simp)) e
 have dom2:∀c∈self :: hd :: bd :: lb :: qs,∃o,H2 c=some o:=fun c hc=>by
  by_cases q1:c=hd
  ·subst q1;exact⟨_,h2h⟩
  ·by_cases q2:c=bd
   ·subst q2;exact⟨_,e2'⟩
   ·obtain⟨o,e⟩:=JW c (sub c hc)
    exact⟨o,keep2 c o q1 q2 e⟩
 have ni:∀y,(upd (upd H2 dxx (HO.own x)) x (HO.ins t.qH dxx [])) y=none→y∉self :: hd :: bd :: lb :: qs:=fun y e hy=>by
  obtain⟨o,e'⟩:=dom2 y hy
  rw[keepm y o e'] at e;cases e
 have hm:∀c∈self :: hd :: bd :: lb :: qs,c∈self :: hd :: bd :: lb :: q :: qs∨H c=none:=fun c hc=>.inl (sub c hc)
 have nqs:∀c∈qs,c≠hd∧c≠bd:=fun c hc=>by
  simp only[List.nodup_cons,List.mem_cons,not_or] at nd2
  exact⟨fun z=>nd2.2.1.2.2 (by rw[←z];exact hc),fun z=>nd2.2.2.1.2 (by rw[←z];exact hc)⟩
 refine k x H3 (self :: hd :: bd :: lb :: qs) fm sub ⟨dx,hd,bd,lb,ps,qs,rfl,nd2,ke _ _ nsh nsb se,keep3 _ _ h2h,keep3 _ _ e2',ke _ _ nlh nlb hl,f3.move fm hm (Nat.le_refl _) (fun c hc o e=>ke c o (nqs c hc).1 (nqs c hc).2 e),nE⟩ ?_
 unfold xP
 refine⟨x,dx3,qa,qb,ys,rfl,fun hxm=>?_,ni qa z1,ni qb z2,r1,r2,r3,e2.move fm hm⟩
 obtain⟨o,e'⟩:=dom2 x hxm
 rw[hx] at e';cases e'
end
noncomputable def Kf (t:jt):Sp:=fun vs H Q _=>∃(self:Addr) (fr:List Fr) (ls:List Str) (B:Nat) (ms:List Addr),vs=[.ref self]∧yx t H self fr ls B ms∧B < 1000∧fr≠[]∧(fr.length=1→Q (.bl false) H)∧
 ∀n rs rows n2 rs2 rows2 fr',fr=(n,rs,rows) :: (n2,rs2,rows2) :: fr'→∀H' ms',Fm ms H H'→(∀b∈ms',b∈ms)→yx t H' self ((n2,rs2,rows2 ++ [.pt n rs rows]) :: fr') ls (B + 1) ms'→Q (.bl true) H'
noncomputable def Kd (t:jt):Sp:=fun vs H Q _=>∃(self p dx a b:Addr) (n:Str) (rs:List Str) (fr:List Fr) (ls:List Str) (B:Nat) (ms:List Addr),vs=[.ref self,.ref p]∧yx t H self fr ls B ms∧B < 1000∧fr.length≤7∧p∉ms∧a∉ms∧H p=some (.ins t.qH dx (nA n a b))∧H a=some (.lst (rs.map V.str))∧(fr.length=7∨n∈ls→Q (.bl false) H)∧
 (¬(fr.length=7∨n∈ls)→∀H' ms',Fm ms H H'→(∀b∈ms',b∈ms∨H b=none)→yx t H' self ((n,rs,[]) :: fr) (ls ++ [n]) (B + 1) ms'→Q (.bl true) H')
noncomputable def Kp (t:jt):Sp:=fun vs H Q _=>∃(self p:Addr) (k:Int) (l u a:Str) (n:Int) (r:Str) (pn:Str) (rs:List Str) (rows:List Rw) (fr:List Fr) (ls:List Str) (B:Nat) (ms:List Addr),vs=[.ref self,.ref p]∧yx t H self ((pn,rs,rows) :: fr) ls B ms∧B < 998∧p∉ms∧At t H p k l u a n r∧(l∈ls→Q (.bl false) H)∧
 (l∉ls→∀H',Fm ms H H'→yx t H' self ((pn,rs,rows ++ [.cl k l u a n r]) :: fr) (ls ++ [l]) (B + 2) ms→Q (.bl true) H')
theorem mO {a b c:Addr} {m:Str} (h1:¬m = "heads") (h2:¬m = "bodies") (h3:¬m = "labels"):(aY a b c).lookup m=none:=(qp h1).trans ((qp h2).trans ((qp h3).trans rfl))
theorem oh {a b c:Addr}:(aY a b c).lookup ("many_open" : Str)=none:=mO (by decide +kernel) (by decide +kernel) (by decide +kernel)
theorem aA {a b c:Addr}:(aY a b c).lookup ("put_in" : Str)=none:=mO (by decide +kernel) (by decide +kernel) (by decide +kernel)
theorem tO {a b c:Addr}:(aY a b c).lookup ("closed" : Str)=none:=mO (by decide +kernel) (by decide +kernel) (by decide +kernel)
theorem Ge {a b c:Addr}:(aY a b c).lookup ("takes_done" : Str)=none:=mO (by decide +kernel) (by decide +kernel) (by decide +kernel)
theorem Ga {a b c:Addr}:(aY a b c).lookup ("takes_head" : Str)=none:=mO (by decide +kernel) (by decide +kernel) (by decide +kernel)
theorem Gi {a b c:Addr}:(aY a b c).lookup ("takes_clause" : Str)=none:=mO (by decide +kernel) (by decide +kernel) (by decide +kernel)
theorem GZ {a b c:Addr}:(aY a b c).lookup ("takes" : Str)=none:=mO (by decide +kernel) (by decide +kernel) (by decide +kernel)
theorem aC {ls:List Str} {n:Str}:(pK (KA ls) (.inr n)).isSome=decide (n∈ls):=by
 rw[←cB]
 unfold KA
 rw[List.any_map]
 rw[Bool.eq_iff_iff]
 simp
theorem Z4 {ls:List Str} {n:Str} (h:n∉ls):putK (KA ls) (.inr n) (.bl true)=KA (ls ++ [n]):=by
 rw[XA]
 ·unfold KA;rw[List.map_append];rfl
 ·have:=@aC ls n
  rw[decide_eq_false h] at this
  cases q:pK (KA ls) (.inr n) with
  | none=>rfl
  | some v=>rw[q] at this;cases this
section
variable {P:Program} {w:World} {K:PySem.W.Frag} {mg:Str→Option Value} {base:Heap} {t:jt}
theorem m9:qo ["self"] ["self"] (z4 jz):=⟨rfl,rfl,rfl,by decide +kernel,rfl,by decide +kernel,by decide +kernel⟩
set_option maxHeartbeats 400000 in
theorem m5 (T:Txt K mg t):qi P w K mg base jk 5 t.kX t.vU ["self"] (Kf t):=by
 refine T.yn.fn.ok m9 (fun vs H Q E h=>(by obtain⟨_,_,_,_,_,rfl,_⟩:=h;rfl)) (fun cdv A outer s H vs Q E hr h=>?_)
 obtain⟨self,fr,ls,B,ms,rfl,hb,hB,hne,k0,k1⟩:=h
 refine⟨_,(z6 (qP (ql jd (ki hr (pv 0)) z7 (qe _))
    (z8 (qw gB)) qr)
   (z6 (q0 (bg hr (pv 0) (z0 (ki hr (pv 0)) z5)))
   (z8 (qw gB)))),?_⟩
 have M1:xB P w K mg base jk 4 t.qA "many_open" (oA t):=.mk' T.kY (wm T) T.kB.bd (by decide)
 have M2:xB P w K mg base jk 4 t.qA "put_in" (Qr t):=.mk' T.wx (gy T) T.yk.bd (by decide)
 have M3:xB P w K mg base jk 4 t.qA "closed" (sx t):=.mk' T.y8 (fb T) T.gr.bd (by decide)
 obtain⟨dx,hd,bd,lb,hps,bqs,e,h⟩:=id hb
 refine⟨_,rfl,self,_,dx,_,rfl,h.se,T.jM,oh,_,M1,?_⟩
 refine⟨self,fr,ls,B,ms,rfl,hb,?_⟩
 walk_at "rd"
 refine jH (fun h1=>?_) (fun h1=>?_)
 ·walk_at "rd"
  exact k0 (by
   have:((fr.length:Nat):Int) - 1=0:=by simpa using h1
   omega)
 match fr,hne with
 | [(n,rs,rows)],_=>exact absurd rfl h1
 | (n,rs,rows) :: (n2,rs2,rows2) :: fr',_=>
  walk_at "rd"
  refine⟨self,_,dx,_,rfl,h.se,T.jM,aA,_,M2,?_⟩
  refine⟨_,rfl,self,_,dx,_,rfl,h.se,T.jM,tO,_,M3,?_⟩
  refine⟨self,n,rs,rows,_,ls,B,ms,rfl,hb,by omega,fun p H1 ms1 fm1 sub1 hb1 hr1=>?_⟩
  refine⟨self,.ref p,n2,rs2,rows2,fr',ls,B,ms1,.pt n rs rows,rfl,hb1,hr1,hB,fun H2 fm2 hb2=>?_⟩
  exact k1 _ _ _ _ _ _ _ rfl H2 ms1 (fm1.trans fm2 (fun b hb=>.inl (sub1 b hb))) sub1 hb2
theorem dz:qo ["self","head"] ["self","head"] (z4 jq):=⟨rfl,rfl,rfl,by decide +kernel,rfl,by decide +kernel,by decide +kernel⟩
set_option maxHeartbeats 400000 in
theorem m6 (T:Txt K mg t):qi P w K mg base jk 3 t.kK t.vR ["self","head"] (Kd t):=by
 refine T.yo.fn.ok dz (fun vs H Q E h=>(by obtain⟨_,_,_,_,_,_,_,_,_,_,_,rfl,_⟩:=h;rfl)) (fun cdv A outer s H vs Q E hr h=>?_)
 obtain⟨self,p,dxp,a,b,n,rs,fr,ls,B,ms,rfl,hb,hB,h7,hp,ha,ep,ea,k0,k1⟩:=h
 refine⟨_,(z6 (qP (PW.pt (gp (ql jd (ki hr (pv 0)) (jD rfl (T.uy).choose_spec (v:=.int 6) ⟨_,rfl⟩) (qe _)) (wC (XE (XU (Z1 hr) (qJ (K:=K) rfl (pv 1) rfl) (qJ (K:=K) rfl (pv 0) rfl))))))
    (z8 (qw gB)) qr)
   (z6 (Zy gB (XN (qJ (K:=K) rfl (pv 0) rfl) (qJ (K:=K) rfl (pv 1) rfl) (tE (Z1 hr))))
   (z6 (q0 (ji PySem.F.plainAttrs_list PySem.F.slot_list_append PySem.F.type_list_append jv (qJ (K:=K) rfl (pv 0) rfl) (z0 (pv 1) z5)))
   (z6 (q0 (ji PySem.F.plainAttrs_list PySem.F.slot_list_append PySem.F.type_list_append jv (qJ (K:=K) rfl (pv 0) rfl) (z0 (qF z5) z5)))
   (z8 (qw gB)))))),?_⟩
 have M1:xB P w K mg base jk 2 t.qA "many_open" (oA t):=.mk' T.kY (wm T) T.kB.bd (by decide)
 obtain⟨dx,hd,bd,lb,hps,bqs,e,h⟩:=id hb
 have fnm:tf K H (.ref p) "name" (.str n):=⟨p,_,dxp,_,rfl,ep,T.kJ,T.wg,qI⟩
 refine⟨_,rfl,self,_,dx,_,rfl,h.se,T.jM,oh,_,M1,?_⟩
 refine⟨self,fr,ls,B,ms,rfl,hb,?_⟩
 walk_at "rd"
 refine jH (fun h1=>?_) (fun h1=>?_)
 ·walk_at "rd"
  exact k0 (.inl (by
   have:((fr.length:Nat):Int) - 1=6:=by simpa using h1
   omega))
 have n7:¬fr.length=7:=fun z=>h1 (by rw[z];rfl)
 refine⟨_,rfl,_,fnm,_,rfl,_,h.f3 T,lb,_,rfl,rJ.k (k:=.inr n) h.hl,?_⟩
 rw[aC]
 subst e
 obtain⟨nd,se,hh,hbb,hl,fa,nE⟩:=id h
 have ndx:=nd
 simp only[List.nodup_cons,List.mem_cons,not_or] at ndx
 obtain⟨⟨nsh,nsb,nsl,_⟩,⟨nhb,nhl,_⟩,⟨nbl,_⟩,_,_⟩:=ndx
 refine⟨_,rfl,?_⟩
 refine jH (fun h2=>?_) (fun h2=>?_)
 ·exact k0 (.inr (of_decide_eq_true h2))
 have hnl:n∉ls:=fun z=>h2 (decide_eq_true z)
 refine⟨_,rfl,_,h.f3 T,_,rfl,_,fnm,lb,_,.inr n,rfl,rfl,hl,qj (by unfold KA;rw[List.length_map];omega),?_⟩
 intro H1 k1' e1
 rw[Z4 hnl] at e1
 have s1:H1 self=some (.ins t.qA dx (aY hd bd lb)):=by rw[k1' self nsl];exact se
 have h1':H1 hd=some (.lst (hps.map V.ref).reverse):=by rw[k1' hd nhl];exact hh
 have b1':H1 bd=some (.lst (bqs.map V.ref).reverse):=by rw[k1' bd nbl];exact hbb
 have lh:=fa.len
 refine⟨_,rfl,_,⟨self,_,dx,_,rfl,s1,T.jM,T.wA,qI⟩,.inl ⟨rfl,_,qD.of h1'⟩,_,rfl,hd,_,_,rfl,rfl,h1',qj (by rw[List.length_reverse,List.length_map];omega),?_⟩
 intro H2 k2 e2
 have s2:H2 self=some (.ins t.qA dx (aY hd bd lb)):=by rw[k2 self nsh];exact s1
 have b2':H2 bd=some (.lst (bqs.map V.ref).reverse):=by rw[k2 bd (Ne.symm nhb)];exact b1'
 have l2':H2 lb=some (.dK (KA (ls ++ [n]))):=by rw[k2 lb (Ne.symm nhl)];exact e1
 refine⟨_,rfl,_,⟨self,_,dx,_,rfl,s2,T.jM,T.kR,(qp b1).trans qI⟩,.inl ⟨rfl,_,qD.of b2'⟩,Nat.zero_le _,?_⟩
 intro q H3 s3 hq e3
 refine⟨bd,_,_,rfl,rfl,s3 _ _ b2',qj (by rw[List.length_reverse,List.length_map];omega),?_⟩
 intro H4 k4 e4
 have ke:∀c o,c≠hd→c≠bd→c≠lb→H c=some o→H4 c=some o:=fun c o z1 z2 z3 e=>by
  rw[k4 c z2];refine s3 _ _ ?_;rw[k2 c z1,k1' c z3];exact e
 have JW:=h.JW
 have dom2:∀c∈self :: hd :: bd :: lb :: bqs,∃o,H2 c=some o:=fun c hc=>by
  by_cases q1:c=hd
  ·subst q1;exact⟨_,e2⟩
  ·rw[k2 c q1]
   by_cases q3:c=lb
   ·subst q3;exact⟨_,e1⟩
   ·rw[k1' c q3];exact JW c hc
 have qn:q∉self :: hd :: bd :: lb :: bqs:=fun z=>by
  obtain⟨o,e⟩:=dom2 q z
  rw[hq] at e;cases e
 have Hq:H q=none:=by
  cases z:H q with
  | none=>rfl
  | some o=>
   have q1:q≠hd:=fun y=>qn (by rw[y];simp)
   have q3:q≠lb:=fun y=>qn (by rw[y];simp)
   rw[k2 q q1,k1' q q3,z] at hq;cases hq
 have fm:Fm (self :: hd :: bd :: lb :: bqs) H H4:=fun c o hc e=>ke c o (fun z=>hc (by rw[z];simp)) (fun z=>hc (by rw[z];simp)) (fun z=>hc (by rw[z];simp)) e
 have hm:∀c∈self :: hd :: bd :: lb :: q :: bqs,c∈self :: hd :: bd :: lb :: bqs∨H c=none:=fun c hc=>by
  simp only[List.mem_cons] at hc
  rcases hc with z | z | z | z | z | z
  ·exact .inl (by simp [z])
  ·exact .inl (by simp [z])
  ·exact .inl (by simp [z])
  ·exact .inl (by simp [z])
  ·exact .inr (by rw[z];exact Hq)
  ·exact .inl (by simp [z])
 have qb:q≠bd:=fun y=>qn (by rw[y];simp)
 have q4:H4 q=some (.lst []):=by rw[k4 q qb];exact e3
 have nqs:∀c∈bqs,c≠hd∧c≠bd∧c≠lb:=fun c hc=>by
  simp only[List.nodup_cons,List.mem_cons,not_or] at nd
  exact⟨fun z=>nd.2.1.2.2 (by rw[←z];exact hc),fun z=>nd.2.2.1.2 (by rw[←z];exact hc),fun z=>nd.2.2.2.1 (by rw[←z];exact hc)⟩
 refine k1 (fun z=>z.elim n7 hnl) H4 (self :: hd :: bd :: lb :: q :: bqs) fm hm ⟨dx,hd,bd,lb,p :: hps,q :: bqs,rfl,?_,ke _ _ nsh nsb nsl se,?_,?_,?_,⟨⟨dxp,a,b,cj hm hp ep,cj hm ha ea,fm _ _ hp ep,fm _ _ ha ea⟩,⟨[],q4,by unfold jb;rfl,Nat.zero_le _⟩,fa.move fm hm (Nat.le_succ _) (fun c hc o e=>ke c o (nqs c hc).1 (nqs c hc).2.1 (nqs c hc).2.2 e)⟩,by rw[List.length_append];simp only[List.length_cons,List.length_nil];omega⟩
 ·have nd':=nd
  simp only[List.nodup_cons,List.mem_cons,not_or] at nd' qn ⊢
  exact⟨⟨nd'.1.1,nd'.1.2.1,nd'.1.2.2.1,Ne.symm qn.1,nd'.1.2.2.2⟩,⟨nd'.2.1.1,nd'.2.1.2.1,Ne.symm qn.2.1,nd'.2.1.2.2⟩,⟨nd'.2.2.1.1,Ne.symm qn.2.2.1,nd'.2.2.1.2⟩,⟨Ne.symm qn.2.2.2.1,nd'.2.2.2.1⟩,qn.2.2.2.2,nd'.2.2.2.2⟩
 ·rw[k4 hd nhb,List.map_cons,List.reverse_cons];exact s3 _ _ e2
 ·rw[List.map_cons,List.reverse_cons];exact e4
 ·rw[k4 lb (Ne.symm nbl)];exact s3 _ _ l2'
end
theorem yx.same {t:jt} {H H':Hp} {me:Addr} {fr:List Fr} {ls:List Str} {B:Nat} {ms:List Addr} (h:yx t H me fr ls B ms) (s:qk H H'):yx t H' me fr ls B ms:=by
 obtain⟨dx,hd,bd,lb,hps,bqs,e,h⟩:=h
 subst e
 exact⟨dx,hd,bd,lb,hps,bqs,rfl,h.nd,s _ _ h.se,s _ _ h.hh,s _ _ h.hb,s _ _ h.hl,h.fa.move (Fm.of s) (fun b hb=>.inl hb) (Nat.le_refl _) (fun c _ o e=>s _ _ e),h.nE⟩
theorem yx.up {t:jt} {H:Hp} {me:Addr} {fr:List Fr} {ls:List Str} {B B':Nat} {ms:List Addr} (h:yx t H me fr ls B ms) (hB:B≤B'):yx t H me fr ls B' ms:=by
 obtain⟨dx,hd,bd,lb,hps,bqs,e,h⟩:=h
 subst e
 exact⟨dx,hd,bd,lb,hps,bqs,rfl,h.nd,h.se,h.hh,h.hb,h.hl,h.fa.move (Fm.of (qk.refl _)) (fun b hb=>.inl hb) hB (fun c _ o e=>e),Nat.le_trans h.nE hB⟩
theorem yx.JW {t:jt} {H:Hp} {me:Addr} {fr:List Fr} {ls:List Str} {B:Nat} {ms:List Addr} (h:yx t H me fr ls B ms):∀b∈ms,∃o,H b=some o:=by
 obtain⟨dx,hd,bd,lb,hps,bqs,e,h⟩:=h
 subst e
 exact h.JW
theorem yx.out {t:jt} {H:Hp} {me:Addr} {fr:List Fr} {ls:List Str} {B:Nat} {ms:List Addr} {p:Addr} (h:yx t H me fr ls B ms) (hp:H p=none):p∉ms:=fun z=>by
 obtain⟨o,e⟩:=h.JW p z
 rw[hp] at e;cases e
noncomputable def push:List Fr→Rw→List Fr
 | (n,rs,rows) :: fr,r=>(n,rs,rows ++ [r]) :: fr
 | [],_=>[]
noncomputable def pX (fr:List Fr) (ls:List Str) (x:Str):Option (List Fr × List Str):=
 if x = "done" then (match fr with
  | (n,rs,rows) :: (n2,rs2,rows2) :: fr'=>some ((n2,rs2,rows2 ++ [.pt n rs rows]) :: fr',ls)
  | _=>none)
 else match wt (yr x) with
  | some (n,rs)=>if fr.length=7∨n∈ls then none else some ((n,rs,[]) :: fr,ls ++ [n])
  | none=>match jL (yr x) with
   | some (k,l,u,a,n,r)=>if l∈ls then none else some (push fr (.cl k l u a n r),ls ++ [l])
   | none=>match Q2 (yr x) with
    | none=>none
    | some (n,v)=>some (push fr (.lt n v),ls)
noncomputable def Ql (t:jt):Sp:=fun vs H Q _=>∃(self:Addr) (x:Str) (fr:List Fr) (ls:List Str) (B:Nat) (ms:List Addr),vs=[.ref self,.str x]∧yx t H self fr ls B ms∧B < 998∧x.length≤190∧fr≠[]∧fr.length≤7∧(pX fr ls x=none→∀H',Fm ms H H'→Q (.bl false) H')∧
 ∀fr' ls' H' ms',pX fr ls x=some (fr',ls')→Fm ms H H'→(∀b∈ms',b∈ms∨H b=none)→yx t H' self fr' ls' (B + 2) ms'→Q (.bl true) H'
section
variable {P:Program} {w:World} {K:PySem.W.Frag} {mg:Str→Option Value} {base:Heap} {t:jt}
theorem fX:qo ["self","clause"] ["self","clause"] (z4 qT):=⟨rfl,rfl,rfl,by decide +kernel,rfl,by decide +kernel,by decide +kernel⟩
set_option maxHeartbeats 400000 in
theorem ff (T:Txt K mg t):qi P w K mg base jk 3 t.xM t.vh ["self","clause"] (Kp t):=by
 refine T.vD.fn.ok fX (fun vs H Q E h=>(by obtain⟨_,_,_,_,_,_,_,_,_,_,_,_,_,_,_,rfl,_⟩:=h;rfl)) (fun cdv A outer s H vs Q E hr h=>?_)
 obtain⟨self,p,k,l,u,a,n,r,pn,rs,rows,fr,ls,B,ms,rfl,hb,hB,hp,hA,k0,k1⟩:=h
 refine⟨_,(z6 (qP (XE (XU (Z1 hr) (qJ (K:=K) rfl (pv 1) rfl) (qJ (K:=K) rfl (pv 0) rfl)))
    (z8 (qw gB)) qr)
   (z6 (Zy gB (XN (qJ (K:=K) rfl (pv 0) rfl) (qJ (K:=K) rfl (pv 1) rfl) (tE (Z1 hr))))
   (z6 (q0 (bg hr (pv 0) (z0 (pv 1) z5)))
   (z8 (qw gB))))),?_⟩
 have M2:xB P w K mg base jk 2 t.qA "put_in" (Qr t):=.mk' T.wx (gy T) T.yk.bd (by decide)
 obtain⟨dx,hd,bd,lb,hps,bqs,e,h⟩:=id hb
 subst e
 have fl:=hA.fl T
 refine⟨_,rfl,_,fl,_,rfl,_,h.f3 T,lb,_,rfl,rJ.k (k:=.inr l) h.hl,?_⟩
 rw[aC]
 refine⟨_,rfl,?_⟩
 refine jH (fun h2=>?_) (fun h2=>?_)
 ·exact k0 (of_decide_eq_true h2)
 have hnl:l∉ls:=fun z=>h2 (decide_eq_true z)
 obtain⟨nd,se,hh,hbb,hl,fa,nE⟩:=id h
 have ndx:=nd
 simp only[List.nodup_cons,List.mem_cons,not_or] at ndx
 obtain⟨⟨nsh,nsb,nsl,_⟩,⟨nhb,nhl,_⟩,⟨nbl,_⟩,nlq,_⟩:=ndx
 refine⟨_,rfl,_,h.f3 T,_,rfl,_,fl,lb,_,.inr l,rfl,rfl,hl,qj (by unfold KA;rw[List.length_map];omega),?_⟩
 intro H1 k1' e1
 rw[Z4 hnl] at e1
 have fm:Fm (self :: hd :: bd :: lb :: bqs) H H1:=fun c o hc e=>by rw[k1' c (fun z=>hc (by rw[z];simp))];exact e
 have hm:∀c∈self :: hd :: bd :: lb :: bqs,c∈self :: hd :: bd :: lb :: bqs∨H c=none:=fun c hc=>.inl hc
 have s1:H1 self=some (.ins t.qA dx (aY hd bd lb)):=by rw[k1' self nsl];exact se
 have hb1:yx t H1 self ((pn,rs,rows) :: fr) (ls ++ [l]) (B + 1) (self :: hd :: bd :: lb :: bqs):=⟨dx,hd,bd,lb,hps,bqs,rfl,nd,s1,by rw[k1' hd nhl];exact hh,by rw[k1' bd nbl];exact hbb,e1,fa.move fm hm (Nat.le_succ _) (fun c hc o e=>by rw[k1' c (fun z=>nlq (by rw[←z];exact hc))];exact e),by rw[List.length_append];simp only[List.length_cons,List.length_nil];omega⟩
 refine⟨_,rfl,self,_,dx,_,rfl,s1,T.jM,aA,_,M2,?_⟩
 obtain⟨dxc,ec⟩:=hA
 have hr1:xP t (self :: hd :: bd :: lb :: bqs) H1 (.cl k l u a n r) (.ref p):=by unfold xP;exact⟨p,rfl,hp,dxc,fm _ _ hp ec⟩
 refine⟨_,rfl,self,.ref p,pn,rs,rows,fr,_,_,_,_,rfl,hb1,hr1,by omega,fun H2 fm2 hb2=>?_⟩
 exact k1 hnl H2 (fm.trans fm2 hm) hb2
theorem yj:qo ["self","row","head","clause","let"] ["self","row"] (z4 j8):=⟨rfl,rfl,rfl,by decide +kernel,rfl,by decide +kernel,by decide +kernel⟩
set_option maxHeartbeats 400000 in
theorem sF (T:Txt K mg t):qi P w K mg base jk 7 t.yG t.bt ["self","row"] (Ql t):=by
 have G_v_clause_of:qi P w K mg base jk 6 t.wI t.wL ["row"] (eE t):=(lH T).mono (by decide)
 have G_v_let_of:qi P w K mg base jk 6 t.bY t.bZ ["row"] (Wr t):=(i8 T).mono (by decide)
 have G_v_part_of:qi P w K mg base jk 6 t.gX t.gZ ["row"] (Kt t):=(oa T).mono (by decide)
 refine T.mU.fn.ok yj (fun vs H Q E h=>(by obtain⟨_,_,_,_,_,_,rfl,_⟩:=h;rfl)) (fun cdv A outer s H vs Q E hr h=>?_)
 obtain⟨self,x,fr,ls,B,ms,rfl,hb,hB,hx,hne,h7,k0,k1⟩:=h
 refine⟨_,(z6 (qP (ql jd (pv 1) qq (qe _))
    (z8 (qw (ki hr (pv 0)))) qr)
   (z6 (qZ (i:=2) yj.nd rfl (Or.inl rfl) (qm G_v_part_of hr rfl T.bf.mg T.bf.fn.kp T.bf.bd .nil qQ (z0 (pv 1) z5)))
   (z6 (qP (ql Qx (pv 2) bN (qe _))
    (z8 (qw (bg hr (pv 0) (z0 (pv 2) z5)))) qr)
   (z6 (qZ (i:=3) yj.nd rfl (Or.inl rfl) (qm G_v_clause_of hr rfl T.yl.mg T.yl.fn.kp T.yl.bd .nil qQ (z0 (pv 1) z5)))
   (z6 (qP (ql Qx (pv 3) bN (qe _))
    (z8 (qw (bg hr (pv 0) (z0 (pv 3) z5)))) qr)
   (z6 (qZ (i:=4) yj.nd rfl (Or.inl rfl) (qm G_v_let_of hr rfl T.fY.mg T.fY.fn.kp T.fY.bd .nil qQ (z0 (pv 1) z5)))
   (z6 (qP (ql XM (pv 4) bN (qe _))
    (z8 (qw gB)) qr)
   (z6 (q0 (bg hr (pv 0) (z0 (pv 4) z5)))
   (z8 (qw gB)))))))))),?_⟩
 have M1:xB P w K mg base jk 6 t.qA "takes_done" (Kf t):=.mk' T.y9 (m5 T) T.yn.bd (by decide)
 have M2:xB P w K mg base jk 6 t.qA "takes_head" (Kd t):=.mk' T.gz (m6 T) T.yo.bd (by decide)
 have M3:xB P w K mg base jk 6 t.qA "takes_clause" (Kp t):=.mk' T.yc (ff T) T.vD.bd (by decide)
 have M4:xB P w K mg base jk 6 t.qA "put_in" (Qr t):=.mk' T.wx (gy T) T.yk.bd (by decide)
 obtain⟨dx,hd,bd,lb,hps,bqs,e,h⟩:=id hb
 obtain⟨pn,prs,prow,dJ,rfl⟩:∃pn prs prow dJ,fr=(pn,prs,prow) :: dJ:=by
  match fr,hne with
  | (a,b,c) :: r,_=>exact⟨a,b,c,r,rfl⟩
 have se:=h.se
 have hmm:∀c∈ms,c∈ms∨H c=none:=fun c hc=>.inl hc
 walk_at "rd"
 refine jH (fun h1=>?_) (fun h1=>?_)
 ·have hxd:x = "done":=rm h1
  refine⟨_,rfl,self,_,dx,_,rfl,se,T.jM,Ge,_,M1,?_⟩
  refine⟨self,_,ls,B,ms,rfl,hb,by omega,hne,fun hl1=>?_,fun n rs rows n2 rs2 rows2 fr' ef H' ms' fm sub hb'=>?_⟩
  ·refine k0 ?_ H (fun _ _ _ e=>e)
   unfold pX
   rw[if_pos hxd]
   have hf0:dJ=[]:=List.length_eq_zero_iff.mp (by simpa using hl1)
   rw[hf0]
  ·refine k1 _ _ H' ms' ?_ fm (fun b hb=>.inl (sub b hb)) (hb'.up (by omega))
   unfold pX
   rw[if_pos hxd,ef]
 have hxd:¬x = "done":=rZ h1
 have eT:pX ((pn,prs,prow) :: dJ) ls x=(match wt (yr x) with
  | some (n,rs)=>if ((pn,prs,prow) :: dJ).length=7∨n∈ls then none else some ((n,rs,[]) :: (pn,prs,prow) :: dJ,ls ++ [n])
  | none=>match jL (yr x) with
   | some (k,l,u,a,n,r)=>if l∈ls then none else some (push ((pn,prs,prow) :: dJ) (.cl k l u a n r),ls ++ [l])
   | none=>match Q2 (yr x) with
    | none=>none
    | some (n,v)=>some (push ((pn,prs,prow) :: dJ) (.lt n v),ls)):=by unfold pX;rw[if_neg hxd]
 walk_at "rd"
 refine fun H1 s1=>⟨fun h0=>?_,fun p n rs h0 hp hP=>?_⟩
 ·rw[h0] at eT
  walk_at "rd"
  refine fun H2 s2=>⟨fun h0c=>?_,fun p k l u a n r h0c hp hA=>?_⟩
  ·rw[h0c] at eT
   walk_at "rd"
   refine fun H3 s3=>⟨fun h0l=>?_,fun p n v h0l hp hL=>?_⟩
   ·rw[h0l] at eT
    walk_at "rd"
    exact k0 eT H3 (Fm.of ((s1.trans s2).trans s3))
   ·rw[h0l] at eT
    have sA:qk H H3:=(s1.trans s2).trans s3
    have hout:p∉ms:=(hb.same (s1.trans s2)).out hp
    walk_at "rd"
    refine⟨self,_,dx,_,rfl,sA _ _ se,T.jM,aA,_,M4,?_⟩
    refine⟨_,rfl,self,.ref p,pn,prs,prow,dJ,ls,B,ms,.lt n v,rfl,hb.same sA,(by unfold xP;exact⟨p,rfl,hout,hL⟩),by omega,fun H4 fm4 hb4=>?_⟩
    exact k1 _ _ H4 ms eT ((Fm.of sA).trans fm4 hmm) hmm (hb4.up (by omega))
  ·rw[h0c] at eT
   have sA:qk H H2:=s1.trans s2
   have hout:p∉ms:=(hb.same s1).out hp
   walk_at "rd"
   refine⟨self,_,dx,_,rfl,sA _ _ se,T.jM,Gi,_,M3,?_⟩
   refine⟨_,rfl,self,p,k,l,u,a,n,r,pn,prs,prow,dJ,ls,B,ms,rfl,hb.same sA,hB,hout,hA,fun hl=>?_,fun hl H' fm hb'=>?_⟩
   ·exact k0 (by rw[eT];exact if_pos hl) H2 (Fm.of sA)
   ·exact k1 _ _ H' ms (by rw[eT];exact if_neg hl) ((Fm.of sA).trans fm hmm) hmm hb'
 ·rw[h0] at eT
  obtain⟨dxp,a,b,q1,q2,q3,z1,z2⟩:=hP
  walk_at "rd"
  refine⟨self,_,dx,_,rfl,s1 _ _ se,T.jM,Ga,_,M2,?_⟩
  refine⟨_,rfl,self,p,dxp,a,b,n,rs,_,ls,B,ms,rfl,hb.same s1,by omega,h7,hb.out hp,hb.out z1,q1,q2,fun hl=>?_,fun hl H' ms' fm hm' hb'=>?_⟩
  ·exact k0 (by rw[eT];exact if_pos hl) H1 (Fm.of s1)
  ·exact k1 _ _ H' ms' (by rw[eT];exact if_neg hl) ((Fm.of s1).trans fm hmm) (fun c hc=>(hm' c hc).elim .inl (fun z=>.inr (s1.free z))) (hb'.up (by omega))
end
noncomputable def GU (t:jt):Sp:=fun vs H Q _=>∃(self dx:Addr),vs=[.ref self]∧H self=some (.ins t.qA dx [])∧∀H' ms,(∀b o,b≠self→H b=some o→H' b=some o)→(∀b∈ms,b=self∨H b=none)→yx t H' self [("whole",[],[])] [] 0 ms→Q .non H'
noncomputable def gE:Nat→List Str→List Fr→List Str→Except Nat (List Fr)
 | _,[],fr,_=>.ok fr
 | i,x :: r,fr,ls=>if i=90 then .error i else match pX fr ls x with
  | none=>.error i
  | some (fr',ls')=>gE (i + 1) r fr' ls'
noncomputable def WD (n:Nat):Except Nat (List Fr)→Except Nat Rw
 | .error i=>.error i
 | .ok [(a,b,c)]=>.ok (.pt a b c)
 | .ok _=>.error n
noncomputable def dv (rows:List Str) (start:Nat):Except Nat Rw:=WD rows.length (gE start (rows.drop start) [("whole",[],[])] [])
theorem JZ {fr fr':List Fr} {ls ls':List Str} {x:Str} (h:pX fr ls x=some (fr',ls')) (h0:fr≠[]) (h7:fr.length≤7):fr'≠[]∧fr'.length≤7:=by
 obtain⟨pn,prs,prow,dJ,rfl⟩:∃pn prs prow dJ,fr=(pn,prs,prow) :: dJ:=by
  match fr,h0 with
  | (a,b,c) :: r,_=>exact⟨a,b,c,r,rfl⟩
 have hp:∀r,(push ((pn,prs,prow) :: dJ) r)≠[]∧(push ((pn,prs,prow) :: dJ) r).length≤7:=fun r=>⟨by simp [push],by simpa [push] using h7⟩
 unfold pX at h
 split at h
 ·match dJ,h with
  | (a,b,c) :: r,h=>
   cases h
   refine⟨by simp,?_⟩
   simp only[List.length_cons] at h7 ⊢
   omega
 ·split at h
  ·split at h
   ·cases h
   ·rename_i hn
    cases h
    refine⟨by simp,?_⟩
    have:¬((pn,prs,prow) :: dJ).length=7:=fun z=>hn (.inl z)
    simp only[List.length_cons] at h7 this ⊢
    omega
  ·split at h
   ·split at h
    ·cases h
    ·cases h;exact hp _
   ·split at h
    ·cases h
    ·cases h;exact hp _
noncomputable def GN (K:PySem.W.Frag) (t:jt):Sp:=fun vs H Q E=>∃(a:Addr) (start:Nat) (rows:List Str),vs=[.ref a,.int start]∧qD K H a (rows.map V.str)∧start≤rows.length∧cC rows∧
 (∀n:Nat,dv rows start=.error n→∀c o H',KI t n H c o H'→E c o H')∧∀rw p H',dv rows start=.ok rw→qk H H'→xP t [] H' rw (.ref p)→Q (.ref p) H'
theorem GK (a b c:Addr):qM "labels" (.ref c) (qM "bodies" (.ref b) (qM "heads" (.ref a) []))=aY a b c:=by
 simp only[qM,aY,if_neg (fun z=>b1 (Eq.symm z)),if_neg (fun z=>b2 (Eq.symm z)),if_neg (fun z=>b3 (Eq.symm z))]
theorem bS {H:Hp} {p:Addr} {o:HO}:Off p H (upd H p o):=fun c o' hc e=>by rw[qB hc];exact e
section
variable {P:Program} {w:World} {K:PySem.W.Frag} {mg:Str→Option Value} {base:Heap} {t:jt}
theorem oP:qo ["self"] ["self"] (z4 xa):=⟨rfl,rfl,rfl,by decide +kernel,rfl,by decide +kernel,by decide +kernel⟩
set_option maxHeartbeats 400000 in
theorem ou (T:Txt K mg t):qi P w K mg base jk 3 t.yf t.gi ["self"] (GU t):=by
 have M_Part_init:qi P w K mg base jk 1 t.xA t.kD ["self","name","rooms","rows"] (Kc K t):=(yF T).mono (by decide)
 refine T.cM.fn.ok oP (fun vs H Q E h=>(by obtain⟨_,_,rfl,_⟩:=h;rfl)) (fun cdv A outer s H vs Q E hr h=>?_)
 obtain⟨self,dx,rfl,se,k⟩:=h
 refine⟨_,(z6 (kz (pv 0) (qF (z0 (xr T.bD M_Part_init hr rfl T.p9 T.vW.bd .nil qQ (z0 qq (z0 (qF z5) (z0 (qF z5) z5)))) z5)) rfl)
   (z6 (kz (pv 0) (qF (z0 (qF z5) z5)) rfl)
   (z8 (kz (pv 0) Va rfl)))),?_⟩
 refine⟨Nat.zero_le _,?_⟩
 intro a1 H1 s1 ha1 ea1
 refine⟨Nat.zero_le _,?_⟩
 intro a2 H2 s2 ha2 ea2
 intro p dxp hp hdxp hne
 have mk:∀c o,H2 c=some o→(upd (upd H2 dxp (HO.own p)) p (HO.ins t.qH dxp [])) c=some o:=wj hp hdxp
 refine⟨p,dxp,a1,a2,"whole",[],[],rfl,qx,mk _ _ (s2 _ _ ea1),mk _ _ ea2,fun H3 o3 h3=>⟨rfl,?_⟩⟩
 obtain⟨dx3,qa,qb,r1,r2,r3,z1,z2⟩:=h3
 have k3:qk H H3:=fun c o e=>o3 c o (qv (s2 _ _ (s1 _ _ e)) hp) (mk c o (s2 _ _ (s1 _ _ e)))
 refine⟨qj (by show 1≤1000;decide),?_⟩
 intro hd H4 s4 hhd ehd
 have se4:=s4 _ _ (k3 _ _ se)
 refine⟨_,rfl,self,_,dx,[],rfl,se4,T.jM,T.wA,(by show 0 < 1000;decide),?_⟩
 have o5:Off self H4 (upd H4 self (.ins t.qA dx (qM "heads" (.ref hd) []))):=bS
 generalize hH5:upd H4 self (.ins t.qA dx (qM "heads" (.ref hd) []))=H5 at o5 ⊢
 have e5:H5 self=some (.ins t.qA dx (qM "heads" (.ref hd) [])):=by rw[←hH5];exact qx
 refine⟨Nat.zero_le _,?_⟩
 intro q H6 s6 hq eq
 refine⟨qj (by show 1≤1000;decide),?_⟩
 intro bd H7 s7 hbd ebd
 refine⟨_,rfl,self,_,dx,_,rfl,s7 _ _ (s6 _ _ e5),T.jM,T.kR,(by show 1 < 1000;decide),?_⟩
 have o8:Off self H7 (upd H7 self (.ins t.qA dx (qM "bodies" (.ref bd) (qM "heads" (.ref hd) [])))):=bS
 generalize hH8:upd H7 self (.ins t.qA dx (qM "bodies" (.ref bd) (qM "heads" (.ref hd) [])))=H8 at o8 ⊢
 have e8:H8 self=some (.ins t.qA dx (qM "bodies" (.ref bd) (qM "heads" (.ref hd) []))):=by rw[←hH8];exact qx
 intro lb H9 s9 hlb elb
 refine⟨_,rfl,self,_,dx,_,rfl,s9 _ _ e8,T.jM,T.gk,?_,?_⟩
 ·have:=x3 ("bodies" : Str) (.ref bd) (qM "heads" (.ref hd) [])
  have e:(qM ("heads" : Str) (.ref hd) []).length=1:=rfl
  omega
 have o10:Off self H9 (upd H9 self (.ins t.qA dx (qM "labels" (.ref lb) (qM "bodies" (.ref bd) (qM "heads" (.ref hd) []))))):=bS
 rw[GK] at o10 ⊢
 have hds:hd≠self:=Ne.symm (qv (k3 _ _ se) hhd)
 have qs:q≠self:=Ne.symm (qv e5 hq)
 have bs:bd≠self:=Ne.symm (qv (s6 _ _ e5) hbd)
 have lbs':lb≠self:=Ne.symm (qv e8 hlb)
 have ps:p≠self:=Ne.symm (qv (s2 _ _ (s1 _ _ se)) hp)
 have qas:qa≠self:=Ne.symm (qv (mk _ _ (s2 _ _ (s1 _ _ se))) z1)
 have up:∀c o,c≠self→H3 c=some o→H9 c=some o:=fun c o hc e=>s9 _ _ (o8 _ _ hc (s7 _ _ (s6 _ _ (o5 _ _ hc (s4 _ _ e)))))
 have h5d:H5 hd=some (.lst [.ref p]):=o5 _ _ hds ehd
 have h6d:=s6 _ _ h5d
 have h8d:H8 hd=some (.lst [.ref p]):=o8 _ _ hds (s7 _ _ h6d)
 have h8q:H8 q=some (.lst []):=o8 _ _ qs (s7 _ _ eq)
 have h8b:H8 bd=some (.lst [.ref q]):=o8 _ _ bs ebd
 have hqd:hd≠q:=qv h5d hq
 have hdb:hd≠bd:=qv h6d hbd
 have hdl:hd≠lb:=qv h8d hlb
 have bql:bd≠q:=Ne.symm (qv eq hbd)
 have bl:bd≠lb:=qv h8b hlb
 have lq:lb≠q:=Ne.symm (qv h8q hlb)
 have h5p:H5 p=some (.ins t.qH dx3 (nA "whole" qa qb)):=o5 _ _ ps (s4 _ _ r1)
 have h5a:H5 qa=some (.lst (([]:List Str).map V.str)):=o5 _ _ qas (s4 _ _ r2)
 have nin:∀c o,c≠self→H3 c=some o→c∉[self,hd,bd,lb,q]:=fun c o hc e hm=>by
  have e5':H5 c=some o:=o5 _ _ hc (s4 _ _ e)
  (simp only[List.mem_cons,List.not_mem_nil,or_false] at hm)
  rcases hm with z | z | z | z | z
  ·exact hc z
  ·rw[z,hhd] at e;cases e
  ·have:=s6 _ _ e5';rw[z,hbd] at this;cases this
  ·have:=o8 _ _ hc (s7 _ _ (s6 _ _ e5'));rw[z,hlb] at this;cases this
  ·rw[z,hq] at e5';cases e5'
 have free:∀c,c∈[self,hd,bd,lb,q]→c=self∨H c=none:=fun c hm=>by
  (simp only[List.mem_cons,List.not_mem_nil,or_false] at hm)
  by_cases hc:c=self
  ·exact .inl hc
  ·refine .inr ?_
   cases z:H c with
   | none=>rfl
   | some o=>
    have:=nin c o hc (k3 _ _ z)
    exact absurd (by simpa using hm) this
 refine k _ [self,hd,bd,lb,q] (fun c o hc e=>o10 _ _ hc (up c o hc (k3 _ _ e))) free ⟨dx,hd,bd,lb,[p],[q],rfl,?_,qx,o10 _ _ hds (s9 _ _ h8d),o10 _ _ bs (s9 _ _ h8b),o10 _ _ lbs' elb,⟨⟨dx3,qa,qb,nin p _ ps r1,nin qa _ qas r2,o10 _ _ ps (up _ _ ps r1),o10 _ _ qas (up _ _ qas r2)⟩,⟨[],o10 _ _ qs (s9 _ _ h8q),by unfold jb;rfl,Nat.le_refl _⟩,True.intro⟩,Nat.le_refl _⟩
 simp only[List.nodup_cons,List.mem_cons,List.not_mem_nil,not_or,or_false,List.nodup_nil,not_false_eq_true,and_true]
 exact⟨⟨Ne.symm hds,Ne.symm bs,Ne.symm lbs',Ne.symm qs⟩,⟨hdb,hdl,hqd⟩,⟨bl,bql⟩,lq⟩
theorem yK:qo ["rows","start","body","number"] ["rows","start"] (z4 jK):=⟨rfl,rfl,rfl,by decide +kernel,rfl,by decide +kernel,by decide +kernel⟩
set_option maxHeartbeats 400000 in
theorem uD (T:Txt K mg t):qi P w K mg base (ar P w) 8 t.v8 t.vO ["rows","start"] (GN K t):=by
 have M_Body_init:qi P w K mg base jk 6 t.yf t.gi ["self"] (GU t):=(ou T).mono (by decide)
 have M_NoText_init:qi P w K mg base jk 6 t.xF t.ku ["self","row"] (Jo K "row"):=(gg T).mono (by decide)
 refine T.wX.fn.Hf yK (fun vs H Q E h=>(by obtain⟨_,_,_,rfl,_⟩:=h;rfl)) (fun cdv A outer s H vs Q E hr h=>?_)
 obtain⟨a,start,rows,rfl,hA,hst,hR,kE,kQ⟩:=h
 refine⟨_,(z6 (qZ (i:=2) yK.nd rfl (Or.inl rfl) (XT T.Z8 M_Body_init hr rfl T.Xt T.cM.bd .nil qQ))
   (z6 (yJ PassesOwn.leaving rfl (Jw rfl T.gs (z0 (pv 1) (z0 (qC (jG (K:=K) rfl) rfl T.vY PySem.boot_len (z0 (pv 0) z5)) z5))) (jC (i:=3) yK.nd rfl (Or.inl rfl))
    (z8 (qP (PW.pt (gp (ql jd (pv 3) (jD rfl (T.ug).choose_spec (v:=.int 90) ⟨_,rfl⟩) (qe _)) (wC (yX (xu (bg hr (pv 2) (z0 (qy (qf (K:=K) rfl) (pv 0) (pv 3) (fun _ _=>rfl)) z5)))))))
    (z8 (bh fA rfl (bj T.vM M_NoText_init hr rfl T.y7 T.xE.bd .nil qQ (z0 (pv 3) z5)))) qr)))
   (z6 (qP (ql en (ki hr (pv 2)) z7 (qe _))
    (z8 (bh fA rfl (bj T.vM M_NoText_init hr rfl T.y7 T.xE.bd .nil qQ (z0 (qC (jG (K:=K) rfl) rfl T.vY PySem.boot_len (z0 (pv 0) z5)) z5)))) qr)
   (z8 (qw (ki hr (pv 2))))))),?_⟩
 have M1:xB P w K mg base jk 7 t.qA "takes" (Ql t):=.mk' T.mK (sF T) T.mU.bd (by decide)
 have M2:xB P w K mg base jk 7 t.qA "many_open" (oA t):=.mk' T.kY (wm T) T.kB.bd (by decide)
 have M3:xB P w K mg base jk 7 t.qA "closed" (sx t):=.mk' T.y8 (fb T) T.gr.bd (by decide)
 intro self dx hs hdx hne
 refine⟨self,dx,rfl,qx,fun H1 ms k1 fr1 hb1=>⟨rfl,?_⟩⟩
 have s1:qk H H1:=fun c o e=>k1 c o (qv e hs) (wj hs hdx c o e)
 have f1:∀c∈ms,H c=none:=fun c hc=>by
  rcases fr1 c hc with z | z
  ·rw[z];exact hs
  ·cases q:H c with
   | none=>rfl
   | some o=>rw[wj hs hdx c o q] at z;cases z
 walk_at "rd"
 refine⟨a,_,rfl,.inl (s1.seq hA),?_⟩
 have hlen:(rows.map V.str).length=rows.length:=List.length_map ..
 refine⟨_,_,rfl,⟨by omega,by have:=hR.nE;omega,by omega,by have:=hR.nE;omega⟩,?_⟩
 have hn:(((rows.map V.str).length:Nat) - (start:Int)).toNat=rows.length - start:=by rw[hlen];omega
 rw[hn]
 refine fN (lo:=(start:Int)) (n:=rows.length - start) (fun i σ H'=>∃(fr:List Fr) (ls:List Str) (ms:List Addr) (v3:Option V),σ=[some (.ref a),some (.int start),some (.ref self),v3]∧qk H H'∧(∀c∈ms,H c=none)∧yx t H' self fr ls (2 * i) ms∧fr≠[]∧fr.length≤7∧gE start (rows.drop start) [("whole",[],[])] []=gE (start + i) (rows.drop (start + i)) fr ls)
  ⟨_,_,ms,none,rfl,s1,f1,hb1,by simp,by simp,by rw[Nat.add_zero]⟩ ?_ ?_
 ·rintro i σ H2 hi ⟨fr,ls,ms2,v3,rfl,s2,f2,hb2,hne2,h72,hr2⟩
  have hi':start + i < rows.length:=by omega
  have hwd:wd rows (start + i)∈rows:=dk hi'
  have hd:rows.drop (start + i)=wd rows (start + i) :: rows.drop (start + i + 1):=by
   unfold wd
   rw[List.getD_eq_getElem?_getD,List.getElem?_eq_getElem hi']
   exact List.drop_eq_getElem_cons hi'
  rw[hd] at hr2
  have hfew:=hR.nE
  have eb:gE (start + i) (wd rows (start + i) :: rows.drop (start + i + 1)) fr ls=if start + i=90 then .error (start + i) else match pX fr ls (wd rows (start + i)) with
   | none=>.error (start + i)
   | some (fr',ls')=>gE (start + i + 1) (rows.drop (start + i + 1)) fr' ls':=by rw[gE]
  have bad:gE (start + i) (wd rows (start + i) :: rows.drop (start + i + 1)) fr ls=.error (start + i)→∀c o H',KI t ((start:Int) + i) H c o H'→E c o H':=fun z c o H' q=>kE (start + i) (by unfold dv;rw[hr2,z];rfl) c o H' (by rw[Int.natCast_add];exact q)
  walk_at "rd"
  refine jH (fun h1=>?_) (fun h1=>?_)
  ·walk_at "rd"
   exact bO T fun c o H' z=>bad (by
    have:(start:Int) + i=90:=by simpa using h1
    rw[eb,if_pos (by omega)]) c o H' (z.back s2)
  have h90:¬start + i=90:=fun z=>h1 (by
   have:(start:Int) + i=90:=by omega
   simp [this])
  rw[if_neg h90] at eb
  obtain⟨dx2,hd2,bd2,lb2,hps2,bqs2,e2,h2⟩:=id hb2
  walk_at "rd"
  refine⟨self,_,dx2,_,rfl,h2.se,T.jM,GZ,_,M1,?_⟩
  have hix:sG (rows.map V.str) ((start:Int) + i)=some (.str (wd rows (start + i))):=by
   have:=pP (xs:=rows) (i:=(start:Int) + i) (by omega) (by omega)
   rw[this]
   unfold wd
   rw[show ((start:Int) + i).toNat=start + i by omega]
  refine⟨_,rfl,_,rfl,a,_,_,_,rfl,rfl,s2.seq hA,hix,?_⟩
  refine⟨self,_,fr,ls,2 * i,ms2,rfl,hb2,by omega,hR.short _ hwd,hne2,h72,fun hN H3 fm3=>?_,fun fr' ls' H3 ms3 hS fm3 hm3 hb3=>?_⟩
  ·rw[hN] at eb
   walk_at "rd"
   exact bO T fun c o H' z=>bad eb c o H' (z.back (fm3.Ze s2 f2))
  ·rw[hS] at eb
   obtain⟨g1,g2⟩:=JZ hS hne2 h72
   walk_at "rd"
   exact⟨fr',ls',ms3,_,rfl,fm3.Ze s2 f2,fun c hc=>(hm3 c hc).elim (f2 c) (fun z=>s2.free z),hb3.up (by omega),g1,g2,by rw[hr2,eb];rfl⟩
 ·rintro σ H2 ⟨fr,ls,ms2,v3,rfl,s2,f2,hb2,hne2,h72,hr2⟩
  have hfew:=hR.nE
  rw[show start + (rows.length - start)=rows.length by omega,List.drop_length,gE] at hr2
  obtain⟨dx2,hd2,bd2,lb2,hps2,bqs2,e2,h2⟩:=id hb2
  walk_at "rd"
  refine⟨self,_,dx2,_,rfl,h2.se,T.jM,oh,_,M2,?_⟩
  refine⟨self,fr,ls,_,ms2,rfl,hb2,?_⟩
  walk_at "rd"
  refine jH (fun h1=>?_) (fun h1=>?_)
  ·have h1':(0:Int) < ((fr.length:Nat):Int) - 1:=of_decide_eq_true h1
   walk_at "rd"
   refine⟨a,_,rfl,.inl (s2.seq hA),?_⟩
   rw[hlen]
   walk_at "rd"
   exact bO T fun c o H' z=>kE rows.length (by
    unfold dv
    rw[hr2]
    match fr,h1' with
    | _ :: _ :: _,_=>rfl
    | [_],h=>exact absurd h (by simp)) c o H' (z.back s2)
  have h1':¬(0:Int) < ((fr.length:Nat):Int) - 1:=fun z=>h1 (decide_eq_true z)
  obtain⟨n,rs,rws,rfl⟩:∃n rs rws,fr=[(n,rs,rws)]:=by
   match fr,hne2,h1' with
   | [(n,rs,rws)],_,_=>exact⟨n,rs,rws,rfl⟩
   | _ :: _ :: _,_,h=>exact absurd (by simp only[List.length_cons];omega) h
  walk_at "rd"
  refine⟨self,_,dx2,_,rfl,h2.se,T.jM,tO,_,M3,?_⟩
  refine⟨self,n,rs,rws,[],ls,_,ms2,rfl,hb2,by omega,fun p H3 ms3 fm3 sub3 hb3 hr3=>?_⟩
  exact kQ _ p H3 (by unfold dv;rw[hr2];rfl) (fm3.Ze s2 f2) (hr3.move (fun _ _ _ e=>e) (fun b hb=>by cases hb))
end
noncomputable def Vb (a b c:Addr) (x:V):List (Str × V):=[("parties",.ref a),("acts",.ref b),("rooms",.ref c),("whole",x)]
theorem a1:¬(("parties" : Str) = "acts"):=by decide +kernel
theorem a2:¬(("parties" : Str) = "rooms"):=by decide +kernel
theorem a3:¬(("parties" : Str) = "whole"):=by decide +kernel
theorem a4:¬(("acts" : Str) = "rooms"):=by decide +kernel
theorem a5:¬(("acts" : Str) = "whole"):=by decide +kernel
theorem a6:¬(("rooms" : Str) = "whole"):=by decide +kernel
theorem GY (a b c:Addr) (x:V):qM "whole" x (qM "rooms" (.ref c) (qM "acts" (.ref b) (qM "parties" (.ref a) [])))=Vb a b c x:=by
 simp only[qM,Vb,if_neg a1,if_neg a2,if_neg a3,if_neg a4,if_neg a5,if_neg a6]
noncomputable def Ku (K:PySem.W.Frag) (t:jt):Sp:=fun vs H Q _=>∃(p dx a b c:Addr) (x:V) (xs ys zs:List V),vs=[.ref p,.ref a,.ref b,.ref c,x]∧H p=some (.ins t.jF dx [])∧H a=some (.lst xs)∧H b=some (.lst ys)∧H c=some (.lst zs)∧
 ∀H' a' b' c',Off p H H'→H' p=some (.ins t.jF dx (Vb a' b' c' x))→H' a'=some (.lst xs)→H' b'=some (.lst ys)→H' c'=some (.lst zs)→H a'=none→H b'=none→H c'=none→Q .non H'
noncomputable def gU (t:jt) (H:Hp) (p:Addr) (ps as:List Str) (qR:List (Str × Str)) (rw:Rw):Prop:=∃dx a b c x vs,H p=some (.ins t.jF dx (Vb a b c x))∧H a=some (.lst (ps.map V.str))∧H b=some (.lst (as.map V.str))∧H c=some (.lst vs)∧Paired (wo H) vs qR∧xP t [] H rw x
theorem lG {H H':Hp} {p c:Addr} {o:HO} (f:Off p H H') (hp:H' p=some o) (hc:H' c=none):H c=none:=by
 cases e:H c with
 | none=>rfl
 | some u=>
  rw[f c u (fun z=>by rw[z,hp] at hc;cases hc) e] at hc
  cases hc
noncomputable def pZ (rows:List Str):Except Nat (List Str × List Str × List (Str × Str) × Rw):=
 match wM rows 0 "parties" 4 [] with
 | none=>.error 0
 | some ps=>match wM rows 1 "acts" 6 ps with
  | none=>.error 1
  | some as=>match xT (ps ++ as) [] (rows.drop 2) with
   | .error n=>.error n
   | .ok qR=>match dv rows (2 + qR.length) with
    | .error n=>.error n
    | .ok rw=>.ok (ps,as,qR,rw)
theorem m8 {taken:List Str}:∀{rest:List Str} {found qR:List (Str × Str)},xT taken found rest=.ok qR→qR.length≤found.length + rest.length∧qR≠[]
 | [],found,qR,h=>by
  unfold xT at h
  split at h
  ·cases h
  ·rename_i z;cases h;exact⟨by simp,z⟩
 | x :: r,found,qR,h=>by
  unfold xT at h
  split at h
  ·split at h
   ·cases h
   ·rename_i z;cases h;exact⟨by omega,z⟩
  ·split at h
   ·cases h
   ·have:=m8 h
    rw[List.length_append] at this
    simp only[List.length_cons,List.length_nil] at this ⊢
    exact⟨by omega,this.2⟩
theorem KH {rows:List Str} (hR:cC rows) (i:Nat):(wd rows i).length≤190:=by
 by_cases hi:i < rows.length
 ·exact hR.short _ (dk hi)
 ·have hz:(wd rows i).length=0:=by
   unfold wd
   rw[List.getD_eq_getElem?_getD,List.getElem?_eq_none_iff.mpr (by omega)]
   decide +kernel
  omega
theorem lQ {rows:List Str} {i:Nat} {x:Str} {m:Int} {taken ns:List Str} (hR:cC rows) (h:wM rows i x m taken=some ns):ns.length≤192:=by
 unfold wM at h
 split at h
 ·cases h
 ·dsimp only at h
  split at h
  ·cases h
  ·cases h
   have hn:=@tS (yr (wd rows i)) x m
   have hw:=(rf (wd rows i)).2
   have:=KH hR i
   omega
noncomputable def Kn (t:jt):Sp:=fun vs H Q E=>∃(x:Str),vs=[.str x]∧x.length≤60000∧cC (Txt.split x "; ")∧
 (∀n:Nat,pZ (Txt.split x "; ")=.error n→∀c o H',KI t n H c o H'→E c o H')∧∀ps as qR rw p H',pZ (Txt.split x "; ")=.ok (ps,as,qR,rw)→qk H H'→gU t H' p ps as qR rw→Q (.ref p) H'
section
variable {P:Program} {w:World} {K:PySem.W.Frag} {mg:Str→Option Value} {base:Heap} {t:jt}
theorem oU:qo ["self","parties","acts","rooms","whole"] ["self","parties","acts","rooms","whole"] (z4 xJ):=⟨rfl,rfl,rfl,by decide +kernel,rfl,by decide +kernel,by decide +kernel⟩
set_option maxHeartbeats 400000 in
theorem cw (T:Txt K mg t):qi P w K mg base jk 1 t.vB t.yb ["self","parties","acts","rooms","whole"] (Ku K t):=by
 refine T.fD.fn.ok oU (fun vs H Q E h=>(by obtain⟨_,_,_,_,_,_,_,_,_,rfl,_⟩:=h;rfl)) (fun cdv A outer s H vs Q E hr h=>?_)
 obtain⟨p,dx,a,b,c,x,xs,ys,zs,rfl,hp,hA,hB,hC,k⟩:=h
 refine⟨_,(z6 (kz (pv 0) (jn (wb (K:=K) rfl) rfl T.yI PyProof.Rows.boot_list (z0 (pv 1) z5)) rfl)
   (z6 (kz (pv 0) (jn (wb (K:=K) rfl) rfl T.yI PyProof.Rows.boot_list (z0 (pv 2) z5)) rfl)
   (z6 (kz (pv 0) (jn (wb (K:=K) rfl) rfl T.yI PyProof.Rows.boot_list (z0 (pv 3) z5)) rfl)
   (z8 (kz (pv 0) (pv 4) rfl))))),?_⟩
 have na:a≠p:=yV hA hp (by intro z;cases z)
 have nb:b≠p:=yV hB hp (by intro z;cases z)
 have nc:c≠p:=yV hC hp (by intro z;cases z)
 refine⟨_,rfl,a,_,rfl,.inl (qD.of hA),?_⟩
 intro q1 H1 s1 hq1 e1
 refine⟨_,rfl,p,_,dx,_,rfl,s1 _ _ hp,T.yW,T.yQ,(by show 0 < 1000;decide),?_⟩
 have o2:Off p H1 (upd H1 p (.ins t.jF dx (qM "parties" (.ref q1) []))):=bS
 generalize hH2:upd H1 p (.ins t.jF dx (qM "parties" (.ref q1) []))=H2 at o2 ⊢
 have e2:H2 p=some (.ins t.jF dx (qM "parties" (.ref q1) [])):=by rw[←hH2];exact qx
 refine⟨_,rfl,b,_,rfl,.inl (qD.of (o2 _ _ nb (s1 _ _ hB))),?_⟩
 intro q3 H3 s3 hq3 e3
 refine⟨_,rfl,p,_,dx,_,rfl,s3 _ _ e2,T.yW,T.bU,(by show 1 < 1000;decide),?_⟩
 have o4:Off p H3 (upd H3 p (.ins t.jF dx (qM "acts" (.ref q3) (qM "parties" (.ref q1) [])))):=bS
 generalize hH4:upd H3 p (.ins t.jF dx (qM "acts" (.ref q3) (qM "parties" (.ref q1) [])))=H4 at o4 ⊢
 have e4:H4 p=some (.ins t.jF dx (qM "acts" (.ref q3) (qM "parties" (.ref q1) []))):=by rw[←hH4];exact qx
 refine⟨_,rfl,c,_,rfl,.inl (qD.of (o4 _ _ nc (s3 _ _ (o2 _ _ nc (s1 _ _ hC))))),?_⟩
 intro q5 H5 s5 hq5 e5
 have l2:(qM ("acts" : Str) (.ref q3) (qM "parties" (.ref q1) [])).length≤2:=by
  have:=x3 ("acts" : Str) (.ref q3) (qM "parties" (.ref q1) [])
  have e:(qM ("parties" : Str) (.ref q1) []).length=1:=rfl
  omega
 refine⟨_,rfl,p,_,dx,_,rfl,s5 _ _ e4,T.yW,T.gT,by omega,?_⟩
 have o6:Off p H5 (upd H5 p (.ins t.jF dx (qM "rooms" (.ref q5) (qM "acts" (.ref q3) (qM "parties" (.ref q1) []))))):=bS
 generalize hH6:upd H5 p (.ins t.jF dx (qM "rooms" (.ref q5) (qM "acts" (.ref q3) (qM "parties" (.ref q1) []))))=H6 at o6 ⊢
 have e6:H6 p=some (.ins t.jF dx (qM "rooms" (.ref q5) (qM "acts" (.ref q3) (qM "parties" (.ref q1) [])))):=by rw[←hH6];exact qx
 refine⟨_,rfl,_,rfl,p,_,dx,_,rfl,e6,T.yW,T.gN,?_,?_⟩
 ·have:=x3 ("rooms" : Str) (.ref q5) (qM "acts" (.ref q3) (qM "parties" (.ref q1) []))
  omega
 have o7:Off p H6 (upd H6 p (.ins t.jF dx (qM "whole" x (qM "rooms" (.ref q5) (qM "acts" (.ref q3) (qM "parties" (.ref q1) [])))))):=bS
 rw[GY] at o7 ⊢
 have n1:q1≠p:=Ne.symm (qv hp hq1)
 have n3:q3≠p:=Ne.symm (qv e2 hq3)
 have n5:q5≠p:=Ne.symm (qv e4 hq5)
 exact k _ q1 q3 q5 (fun d o hd e=>o7 _ _ hd (o6 _ _ hd (s5 _ _ (o4 _ _ hd (s3 _ _ (o2 _ _ hd (s1 _ _ e))))))) qx (o7 _ _ n1 (o6 _ _ n1 (s5 _ _ (o4 _ _ n1 (s3 _ _ (o2 _ _ n1 e1)))))) (o7 _ _ n3 (o6 _ _ n3 (s5 _ _ (o4 _ _ n3 e3)))) (o7 _ _ n5 (o6 _ _ n5 e5)) hq1 (s1.free (lG o2 e2 hq3)) (s1.free (lG o2 e2 (s3.free (lG o4 e4 hq5))))
theorem yT:qo ["text","rows","parties","acts","rooms","whole"] ["text"] (z4 we):=⟨rfl,rfl,rfl,by decide +kernel,rfl,by decide +kernel,by decide +kernel⟩
set_option maxHeartbeats 400000 in
theorem Jz (T:Txt K mg t):qi P w K mg base (ar P w) 9 t.pR t.pC ["text"] (Kn t):=by
 have G_v_read_names:qi P w K mg base (ar P w) 8 t.vA t.vT ["rows","number","word","most","taken"] (GL K t):=(uF T).mono (by decide)
 have G_v_read_rooms:qi P w K mg base (ar P w) 8 t.v7 t.vN ["rows","taken"] (GS K t):=(uM T).mono (by decide)
 have G_v_read_whole:qi P w K mg base (ar P w) 8 t.v8 t.vO ["rows","start"] (GN K t):=(uD T).mono (by decide)
 have M_Pact_init:qi P w K mg base jk 7 t.vB t.yb ["self","parties","acts","rooms","whole"] (Ku K t):=(cw T).mono (by decide)
 refine T.gd.fn.Hf yT (fun vs H Q E h=>(by obtain⟨_,rfl,_⟩:=h;rfl)) (fun cdv A outer s H vs Q E hr h=>?_)
 obtain⟨x,rfl,hx,hR,kE,kQ⟩:=h
 refine⟨_,(z6 (qZ (i:=1) yT.nd rfl (Or.inl rfl) (ji PySem.F.plainAttrs_str PySem.F.slot_str_split PySem.F.type_str_split bq (pv 0) (z0 qq z5)))
   (z6 (qZ (i:=2) yT.nd rfl (Or.inl rfl) (qm G_v_read_names hr rfl T.xH.mg T.xH.fn.kp T.xH.bd .nil (Qk fun _ _ _ z=>z) (z0 (pv 1) (z0 z7 (z0 qq (z0 (jD rfl (T.pO).choose_spec (v:=.int 4) ⟨_,rfl⟩) (z0 (qF z5) z5)))))))
   (z6 (qZ (i:=3) yT.nd rfl (Or.inl rfl) (qm G_v_read_names hr rfl T.xH.mg T.xH.fn.kp T.xH.bd .nil (Qk fun _ _ _ z=>z) (z0 (pv 1) (z0 z7 (z0 qq (z0 (jD rfl (T.uw).choose_spec (v:=.int 6) ⟨_,rfl⟩) (z0 (pv 2) z5)))))))
   (z6 (qZ (i:=4) yT.nd rfl (Or.inl rfl) (qm G_v_read_rooms hr rfl T.wJ.mg T.wJ.fn.kp T.wJ.bd .nil (Qk fun _ _ _ z=>z) (z0 (pv 1) (z0 (qg wD (pv 2) (pv 3)) z5))))
   (z6 (qZ (i:=5) yT.nd rfl (Or.inl rfl) (qm G_v_read_whole hr rfl T.wX.mg T.wX.fn.kp T.wX.bd .nil (Qk fun _ _ _ z=>z) (z0 (pv 1) (z0 (qg ka (jD rfl (T.wq).choose_spec (v:=.int 2) ⟨_,rfl⟩) (qC (jG (K:=K) rfl) rfl T.vY PySem.boot_len (z0 (pv 4) z5))) z5))))
   (z8 (qw (xr T.oy M_Pact_init hr rfl T.aR T.fD.bd .nil qQ (z0 (pv 2) (z0 (pv 3) (z0 (pv 4) (z0 (pv 5) z5)))))))))))),?_⟩
 walk_at "rd"
 refine⟨by rw[sizeLine_eq];omega,?_⟩
 intro lr H1 s1 hlr e1
 have hpos:1≤(Txt.split x (Str.ofString "; ")).length:=PyProof.Rows.split_pos x "; "
 have e1':H1 lr=some (.lst ((Txt.split x "; ").map V.str)):=e1
 clear e1
 generalize Txt.split x (Str.ofString "; ")=rows at *
 walk_at "rd"
 intro l0 H2 s2 hl0 e2
 have sA:qk H H2:=s1.trans s2
 refine⟨lr,l0,0,_,_,rows,[],rfl,qD.of (s2 _ _ e1'),e2,Nat.zero_le _,hR,Nat.zero_le _,by decide,fun hN c o H' z=>?_,fun ps lp H3 hS s3 hlp e3=>?_⟩
 ·exact kE 0 (by unfold pZ;rw[hN]) c o H' (z.back sA)
 have hps:=lQ hR hS
 walk_at "rd"
 refine⟨lr,lp,1,_,_,rows,ps,rfl,qD.of (s3 _ _ (s2 _ _ e1')),e3,hpos,hR,by omega,by decide,fun hN c o H' z=>?_,fun as la H4 hS4 s4 hla e4=>?_⟩
 ·exact kE 1 (by unfold pZ;rw[hS];dsimp only;rw[hN]) c o H' (z.back (sA.trans s3))
 have has:=lQ hR hS4
 walk_at "rd"
 refine⟨lp,la,_,_,rfl,rfl,s4 _ _ e3,e4,qj (by simp only[List.length_map];omega),?_⟩
 intro lt H5 s5 hlt e5
 have e5':H5 lt=some (.lst ((ps ++ as).map V.str)):=by rw[e5,List.map_append]
 have sB:qk H H5:=((sA.trans s3).trans s4).trans s5
 refine⟨lr,lt,rows,ps ++ as,rfl,qD.of (s5 _ _ (s4 _ _ (s3 _ _ (s2 _ _ e1')))),e5',hR,by rw[List.length_append];omega,fun n hN c o H' z=>?_,fun qR l6 H6 vs hS6 s6 hl6 e6 hP6=>?_⟩
 ·exact kE n (by unfold pZ;rw[hS];dsimp only;rw[hS4];dsimp only;rw[hN]) c o H' (z.back sB)
 have hrl:=(m8 hS6).1
 have hr0:=List.length_pos_iff.mpr (m8 hS6).2
 rw[List.length_drop,List.length_nil,Nat.zero_add] at hrl
 have hvl:vs.length=qR.length:=Paired.length hP6
 walk_at "rd"
 refine⟨l6,_,rfl,.inl (qD.of e6),?_⟩
 refine⟨_,_,rfl,rfl,?_⟩
 have ecast:(2:Int) + ((vs.length:Nat):Int)=((2 + qR.length:Nat):Int):=by rw[hvl];omega
 have sC:qk H H6:=sB.trans s6
 refine⟨lr,2 + qR.length,rows,by rw[←ecast];rfl,qD.of (s6 _ _ (s5 _ _ (s4 _ _ (s3 _ _ (s2 _ _ e1'))))),by omega,hR,fun n hN c o H' z=>?_,fun rw' p H7 hS7 s7 hr7=>?_⟩
 ·exact kE n (by unfold pZ;rw[hS];dsimp only;rw[hS4];dsimp only;rw[hS6];dsimp only;rw[hN]) c o H' (z.back sC)
 walk_at "rd"
 intro q dxq hq hdq hne
 have mk:∀c o,H7 c=some o→(upd (upd H7 dxq (HO.own q)) q (HO.ins t.jF dxq [])) c=some o:=wj hq hdq
 refine⟨q,dxq,lp,la,l6,.ref p,_,_,_,rfl,qx,mk _ _ (s7 _ _ (s6 _ _ (s5 _ _ (s4 _ _ e3)))),mk _ _ (s7 _ _ (s6 _ _ (s5 _ _ e4))),mk _ _ (s7 _ _ e6),fun H8 a' b' c' o8 g1 g2 g3 g4 _ _ _=>⟨rfl,?_⟩⟩
 have s8:qk H7 H8:=fun c o e=>o8 c o (qv e hq) (mk c o e)
 exact kQ ps as qR rw' q H8 (by unfold pZ;rw[hS];dsimp only;rw[hS4];dsimp only;rw[hS6];dsimp only;rw[hS7]) ((sC.trans s7).trans s8) ⟨_,a',b',c',_,_,g1,g2,g3,g4,Paired.imp' (fun _ _ z=>z.same (s7.trans s8)) hP6,hr7.move (fun _ _ _ e=>s8 _ _ e) (fun b hb=>by cases hb)⟩
end
noncomputable def lits:List Str:=["any","must","may","not","by","else","to","let","be","part","in","calm","sore","end"]
noncomputable def Rt (k:Nat) (x:Str):Prop:=(k=0∧qK x=true)∨(k=1∧qK x=false∧0 < bL x∧x∉lits)∨(k=2∧qK x=false∧bL x=0∧x∉lits)∨(3≤k∧lits[k - 3]?=some x)
noncomputable def ZO (k p:Nat):Bool:=if p=100 then k == 0 else if p=101 then k == 0 || k == 3 else if p=102 then k == 1 else k == p
noncomputable def j7 (ks ps:List Nat):Bool:=decide (ks.length=ps.length) && (ks.zip ps).all fun q=>ZO q.1 q.2
noncomputable def Zv (p:Nat):Str:=if p=100 then "NAME" else if p=101 then "WHO" else if p=102 then "NUMBER" else lits.getD (p - 3) ""
noncomputable def uJ:List Nat:=[100,100,4,100,7,102,8,100]
noncomputable def fi:List Nat:=[100,101,5,100]
noncomputable def Zj:List Nat:=[100,101,5,6,100,8,100]
noncomputable def c9:List Nat:=[100,101,7,100,9,100]
noncomputable def VG:List Nat:=[10,100,11,100]
noncomputable def nk:List Nat:=[12,100]
noncomputable def XH (p:Nat):Bool:=p == 100 || p == 101 || p == 102 || (decide (3≤p) && decide (p≤16))
theorem xf:ZN=uJ.map Zv∧nI=fi.map Zv∧Vy=Zj.map Zv∧aW=c9.map Zv∧J8=VG.map Zv∧rM=nk.map Zv:=by decide +kernel
theorem u7:∀x∈lits,qK x=false∧bL x=0:=by decide +kernel
theorem Vl:lits.Nodup:=by decide +kernel
theorem oz:∀c∈qO.cps.toList,¬(48≤c∧c≤57):=by decide +kernel
theorem ZE (z:Str) (c:Nat):has z c=decide (c∈z.cps.toList):=StrLaws.found_one z c
theorem sZ {x z:Str} {m:Int} (h:pV x z m=true):1≤x.length∧(x.length:Int)≤m∧∀c∈x.cps.toList,c∈z.cps.toList:=by
 unfold pV at h
 rw[Bool.and_eq_true,Bool.and_eq_true] at h
 obtain⟨⟨h1,h2⟩,h3⟩:=h
 refine⟨of_decide_eq_true h1,of_decide_eq_true h2,fun c hc=>?_⟩
 have:=List.all_eq_true.mp h3 c hc
 rw[ZE] at this
 exact of_decide_eq_true this
theorem name_num {x:Str} (h:qK x=true):bL x=0:=by
 unfold qK at h
 rw[Bool.and_eq_true] at h
 obtain⟨h1,_,h3⟩:=sZ h.1
 unfold bL
 refine if_neg fun q=>?_
 obtain⟨_,_,d3⟩:=uK q.1
 obtain⟨c,e,_⟩:=iP h1
 have hc:c∈x.cps.toList:=List.mem_of_mem_head? e
 exact oz c (h3 c hc) (d3 c hc)
theorem XQ {x:Str} (h:qK x=true):x∉lits:=fun q=>by rw[(u7 x q).1] at h;cases h
theorem W3 {k j:Nat} {x:Str} (hk:lits[k]?=some x) (hj:lits[j]?=some x):k=j:=lV Vl hk hj
theorem Rt.num {k:Nat} {x:Str} (h:Rt k x):decide (bL x > 0)=(k == 1):=by
 rcases h with ⟨rfl,h⟩ | ⟨rfl,h1,h2,h3⟩ | ⟨rfl,h1,h2,h3⟩ | ⟨h1,h2⟩
 ·rw[name_num h];rfl
 ·rw[decide_eq_true h2];rfl
 ·rw[h2];rfl
 ·have hm:=List.mem_of_getElem? h2
  rw[(u7 x hm).2]
  have:(k == 1)=false:=beq_eq_false_iff_ne.mpr (by omega)
  rw[this];rfl
theorem Rt.name {k:Nat} {x:Str} (h:Rt k x):qK x=(k == 0):=by
 rcases h with ⟨rfl,h⟩ | ⟨rfl,h1,h2,h3⟩ | ⟨rfl,h1,h2,h3⟩ | ⟨h1,h2⟩
 ·rw[h];rfl
 ·rw[h1];rfl
 ·rw[h1];rfl
 ·have hm:=List.mem_of_getElem? h2
  rw[(u7 x hm).1]
  exact(beq_eq_false_iff_ne.mpr (by omega)).symm
theorem Rt.lit {k j:Nat} {x y:Str} (h:Rt k x) (hj:lits[j]?=some y):decide (x=y)=(k == j + 3):=by
 have nm:x∉lits→k < 3→decide (x=y)=(k == j + 3):=fun h h3=>by
  have:¬x=y:=fun q=>h (by rw[q];exact List.mem_of_getElem? hj)
  rw[decide_eq_false this]
  exact(beq_eq_false_iff_ne.mpr (by omega)).symm
 rcases h with ⟨rfl,h⟩ | ⟨rfl,h1,h2,h3⟩ | ⟨rfl,h1,h2,h3⟩ | ⟨h1,h2⟩
 ·exact nm (XQ h) (by omega)
 ·exact nm h3 (by omega)
 ·exact nm h3 (by omega)
 ·by_cases q:k=j + 3
  ·subst q
   rw[Nat.add_sub_cancel] at h2
   rw[hj] at h2
   cases h2
   simp
  ·have:¬x=y:=fun e=>q (by subst e;have:=W3 h2 hj;omega)
   rw[decide_eq_false this]
   exact(beq_eq_false_iff_ne.mpr q).symm
theorem Ym:∀p < 17,3≤p→Zv p≠"NAME"∧Zv p≠"WHO"∧Zv p≠"NUMBER"∧lits[p - 3]?=some (Zv p):=by decide +kernel
theorem aG (x:Str):yd x "NAME" = qK x:=if_pos rfl
theorem ZZ:("WHO" : Str)≠"NAME"∧("NUMBER" : Str)≠"NAME"∧("NUMBER" : Str)≠"WHO":=by decide +kernel
theorem Rt.fits {k p:Nat} {x:Str} (h:Rt k x) (hp:XH p=true):yd x (Zv p)=ZO k p:=by
 unfold ZO
 by_cases h1:p=100
 ·subst h1
  rw[if_pos rfl]
  show yd x "NAME" = _
  rw[aG,h.name]
 rw[if_neg h1]
 by_cases h2:p=101
 ·subst h2
  rw[if_pos rfl]
  show yd x "WHO" = _
  unfold yd
  rw[if_neg ZZ.1,if_pos rfl,h.name,h.lit (j:=0) rfl]
 rw[if_neg h2]
 by_cases h3:p=102
 ·subst h3
  rw[if_pos rfl]
  show yd x "NUMBER" = _
  unfold yd
  rw[if_neg ZZ.2.1,if_neg ZZ.2.2,if_pos rfl,h.num]
 rw[if_neg h3]
 have hp':3≤p∧p≤16:=by
  unfold XH at hp
  simp [h1,h2,h3] at hp
  exact hp
 obtain⟨a,b,c,d⟩:=Ym p (by omega) hp'.1
 unfold yd
 rw[if_neg a,if_neg b,if_neg c,h.lit d,Nat.sub_add_cancel hp'.1]
noncomputable abbrev mv:List Nat→List Str→Prop:=Paired Rt
theorem mv.fits:∀{ks:List Nat} {ws:List Str},mv ks ws→∀{ps:List Nat},ps.all XH=true→kW ws (ps.map Zv)=j7 ks ps:=by
 intro ks ws r ps hp
 unfold kW j7
 rw[List.length_map,←r.length]
 congr 1
 induction r generalizing ps with
 | nil=>rfl
 | cons h t ih=>
  cases ps with
  | nil=>rfl
  | cons p ps=>
   rw[List.all_cons,Bool.and_eq_true] at hp
   rw[List.map_cons,List.zip_cons_cons,List.zip_cons_cons,List.all_cons,List.all_cons,ih hp.2]
   rw[show yd _ (Zv p)=ZO _ p from h.fits hp.1]
noncomputable def nv (ks:List Nat):Bool:=j7 (ks.take 2) nk && (ks.length == 2 || (ks.getD 2 99 == 13 && (decide (1≤(ks.drop 3).length) && decide ((ks.drop 3).length≤12) && (ks.drop 3).all (· == 0))))
noncomputable def Wu (ks:List Nat):Bool:=ks.length == 2 && (decide (14≤ks.getD 0 99) && decide (ks.getD 0 99≤16)) && ks.getD 1 99 == 0
noncomputable def BM (ks:List Nat):Bool:=!j7 ks uJ && !j7 ks fi && !j7 ks Zj && !j7 ks c9 && !j7 ks VG && !nv ks && !Wu ks
noncomputable def HG (ws:List Str):Prop:=jL ws=none∧Q2 ws=none∧wt ws=none∧fZ ws=none
theorem mv.take:∀{ks:List Nat} {ws:List Str} (n:Nat),mv ks ws→mv (ks.take n) (ws.take n)
 | _,_,0,_=>.nil
 | _,_,_ + 1,.nil=>.nil
 | _,_,n + 1,.cons r t=>.cons r (mv.take n t)
theorem mv.drop:∀{ks:List Nat} {ws:List Str} (n:Nat),mv ks ws→mv (ks.drop n) (ws.drop n)
 | _,_,0,r=>r
 | _,_,_ + 1,.nil=>.nil
 | _,_,n + 1,.cons _ t=>mv.drop n t
theorem mv.append:∀{ks js:List Nat} {ws zs:List Str},mv ks ws→mv js zs→mv (ks ++ js) (ws ++ zs)
 | _,_,_,_,.nil,s=>s
 | _,_,_,_,.cons r t,s=>.cons r (mv.append t s)
theorem mv.pick:∀{ks:List Nat} {ws:List Str} {i:Nat},mv ks ws→i < ks.length→Rt (ks.getD i 99) (My.wd ws i)
 | _,_,_,.nil,h=>by simp at h
 | _,_,0,.cons r _,_=>r
 | _,_,i + 1,.cons _ t,h=>mv.pick (i:=i) t (by simpa using h)
theorem mv.names:∀{ks:List Nat} {ws:List Str},mv ks ws→ws.all qK=ks.all (· == 0)
 | _,_,.nil=>rfl
 | _,_,.cons r t=>by rw[List.all_cons,List.all_cons,mv.names t,r.name]
theorem Zw:uJ.all XH=true∧fi.all XH=true∧Zj.all XH=true∧c9.all XH=true∧VG.all XH=true∧nk.all XH=true:=by decide
theorem gw {ks ps:List Nat} {ws fs:List Str} (r:mv ks ws) (hp:ps.all XH=true) (e:fs=ps.map Zv) (h:j7 ks ps=false):¬kW ws fs=true:=by
 rw[e,r.fits hp,h]
 simp
theorem mx {ks ps:List Nat} {ws fs:List Str} (r:mv ks ws) (hp:ps.all XH=true) (e:fs=ps.map Zv) (h:j7 ks ps=true):kW ws fs=true:=by
 rw[e,r.fits hp,h]
theorem QD {ks ps:List Nat} (h:j7 ks ps=true):ks.length=ps.length:=by
 unfold j7 at h
 rw[Bool.and_eq_true] at h
 exact of_decide_eq_true h.1
theorem mv.part {ks:List Nat} {ws:List Str} (r:mv ks ws) (h:nv ks=false):wt ws=none:=by
 have hl:=r.length
 unfold wt
 by_cases hf:kW (ws.take 2) rM=true
 ·rw[if_pos hf]
  have hT:j7 (ks.take 2) nk=true:=by
   have:=(r.take 2).fits Zw.2.2.2.2.2
   rw[←xf.2.2.2.2.2,hf] at this
   exact this.symm
  have h2:2≤ks.length:=by have:(ks.take 2).length=2:=QD hT;rw[List.length_take] at this;omega
  unfold nv at h
  rw[hT,Bool.true_and,Bool.or_eq_false_iff] at h
  have hn:¬ws.length=2:=fun q=>by
   have:ks.length=2:=by omega
   rw[this] at h
   simp at h
  rw[if_neg hn]
  refine if_pos ?_
  by_cases hin:wd ws 2 = "in"
  ·refine .inr ?_
   have r2:=mv.pick (i:=2) r (by omega)
   have e13:(ks.getD 2 99 == 13)=true:=by rw[←r2.lit (j:=10) (y:="in") rfl];exact decide_eq_true hin
   have h3:=h.2
   rw[e13,Bool.true_and] at h3
   unfold mw
   rw[(r.drop 3).names,←(r.drop 3).length]
   have hc:decide (((ks.drop 3).length:Int)≤12)=decide ((ks.drop 3).length≤12):=by
    by_cases q:(ks.drop 3).length≤12
    ·rw[decide_eq_true q,decide_eq_true (by omega)]
    ·rw[decide_eq_false q,decide_eq_false (by omega)]
   rw[hc]
   exact h3
  ·exact .inl hin
 ·exact if_neg hf
section
variable {P:Program} {w:World} {K:PySem.W.Frag} {mg:Str→Option Value} {base:Heap} {t:jt}
end
theorem oO {c:Nat}:∀{xs ys X Y:List Nat},c∉xs→c∉ys→xs ++ c :: X=ys ++ c :: Y→xs=ys∧X=Y
 | [],[],_,_,_,_,h=>by simpa using h
 | [],y :: ys,_,_,_,hy,h=>by
  simp only[List.nil_append,List.cons_append,List.cons.injEq] at h
  exact absurd (by rw[h.1];simp) hy
 | x :: xs,[],_,_,hx,_,h=>by
  simp only[List.nil_append,List.cons_append,List.cons.injEq] at h
  exact absurd (by rw[←h.1];simp) hx
 | x :: xs,y :: ys,X,Y,hx,hy,h=>by
  simp only[List.cons_append,List.cons.injEq] at h
  obtain⟨e1,e2⟩:=oO (c:=c) (fun q=>hx (List.mem_cons_of_mem _ q)) (fun q=>hy (List.mem_cons_of_mem _ q)) h.2
  exact⟨by rw[h.1,e1],e2⟩
theorem QV:(" " : Str).cps.toList=[32]:=by decide +kernel
theorem JT:(" " : Str)=⟨#[32]⟩:=by decide +kernel
theorem qX (x y:Str) (r:List Str):(Str.join " " (x :: y :: r)).cps.toList=x.cps.toList ++ 32 :: (Str.join " " (y :: r)).cps.toList:=by
 rw[pA,cps_append,cps_append,QV]
 simp
theorem iU:∀{as bs:List Str},as≠[]→bs≠[]→(∀x∈as,32∉x.cps.toList)→(∀x∈bs,32∉x.cps.toList)→Str.join " " as=Str.join " " bs→as=bs
 | [],_,h,_,_,_,_=>absurd rfl h
 | _ :: _,[],_,h,_,_,_=>absurd rfl h
 | [a],[b],_,_,_,_,e=>by rw[show a=b from e]
 | [a],b :: b' :: r,_,_,ha,_,e=>by
  have e':=congrArg (fun z=>z.cps.toList) e
  simp only[qX,L2.join_one] at e'
  exact absurd (by rw[e'];simp) (ha a (by simp))
 | a :: a' :: r,[b],_,_,_,hb,e=>by
  have e':=congrArg (fun z=>z.cps.toList) e
  simp only[qX,L2.join_one] at e'
  exact absurd (by rw[←e'];simp) (hb b (by simp))
 | a :: a' :: r,b :: b' :: r',_,_,ha,hb,e=>by
  have e':=congrArg (fun z=>z.cps.toList) e
  simp only[qX] at e'
  obtain⟨e1,e2⟩:=oO (ha a (by simp)) (hb b (by simp)) e'
  have:=iU (as:=a' :: r) (bs:=b' :: r') (by simp) (by simp) (fun x hx=>ha x (List.mem_cons_of_mem _ hx)) (fun x hx=>hb x (List.mem_cons_of_mem _ hx)) (kd e2)
  rw[kd e1,this]
theorem sk {ws:List Str} (h:ws≠[]) (hb:∀x∈ws,32∉x.cps.toList):yr (Txt.join " " ws)=ws:=by
 unfold yr
 rw[join_eq]
 refine(iU h ?_ hb ?_ ?_).symm
 ·intro q
  have:=PyProof.Rows.split_pos (Str.join " " ws) " "
  rw[q] at this
  simp at this
 ·intro x hx
  rw[JT] at hx
  exact StrLaws.split_free _ 32 x hx
 ·exact(StrLaws.join_split _ _).symm
structure Wk (x:Str):Prop where
 as:asc x
 nb:32∉x.cps.toList
noncomputable def iw (ws:List Str):Nat:=(ws.map (·.length)).sum + ws.length
theorem V0 (as bs:List Str):iw (as ++ bs)=iw as + iw bs:=by
 unfold iw
 rw[List.map_append,List.sum_append,List.length_append]
 omega
theorem V1 (x:Str):iw [x]=x.length + 1:=by simp [iw]
theorem fV {n:Nat}:∀{ws:List Str},(∀x∈ws,x.length≤n)→iw ws≤(n + 1) * ws.length
 | [],_=>by simp [iw]
 | x :: r,h=>by
  have h1:=h x (by simp)
  have h2:=fV (n:=n) (ws:=r) fun y hy=>h y (List.mem_cons_of_mem _ hy)
  have e:iw (x :: r)=iw [x] + iw r:=V0 [x] r
  rw[e,V1,List.length_cons,Nat.mul_add]
  omega
theorem rh (ws:List Str):(Txt.join " " ws).length≤iw ws:=by
 have:=iR " " ws
 have e:(" " : Str).length=1:=by decide +kernel
 rw[e] at this
 unfold iw
 omega
theorem cJ (ws:List Str):(ws.map (·.length)).sum + ws.length * (" " : Str).length=iw ws:=by
 have e:(" " : Str).length=1:=by decide +kernel
 rw[e];unfold iw;omega
section
variable {P:Program} {w:World} {K:PySem.W.Frag} {mg:Str→Option Value} {base:Heap} {t:jt}
end
noncomputable def gu (c k:Int):Int:=(c % 2147483629 + 104729 * (k + 1)) % 2147483629 * ((c % 2147483629 + 104729 * (k + 1)) % 2147483629) % 2147483647 * 48271 % 2147483647 / 7
theorem aN (c k:Int):0≤gu c k∧gu c k < 306783379:=by
 unfold gu
 generalize (c % 2147483629 + 104729 * (k + 1)) % 2147483629 * ((c % 2147483629 + 104729 * (k + 1)) % 2147483629) % 2147483647 * 48271=z
 omega
noncomputable def yE (ns:List Int) (k:Int):Int:=if k < (ns.length:Int) then ns.getD k.toNat 0 % 1000000000000000000000007 else 0
theorem K9 (ns:List Int) (k:Int):0≤yE ns k∧yE ns k < 1000000000000000000000007:=by
 unfold yE
 split
 ·exact⟨Int.emod_nonneg _ (by decide),Int.emod_lt_of_pos _ (by decide)⟩
 ·decide
noncomputable def Zc (K:PySem.W.Frag):Sp:=fun vs H Q _=>∃(a:Addr) (k:Int) (ns:List Int),vs=[.ref a,.int k]∧qD K H a (ns.map V.int)∧0≤k∧Q (.int (yE ns k)) H
noncomputable def aq:Sp:=fun vs H Q _=>∃(c k:Int),vs=[.int c,.int k]∧0≤k∧k≤1000∧Q (.int (gu c k)) H
noncomputable abbrev sS:Str:="fgjkqvxz"
noncomputable def JY:List Nat:=[102,103,106,107,113,118,120,122]
theorem Qf:sS.length=8∧sS.cps.toList=JY:=by decide +kernel
theorem uA:qO.length=26∧qO.cps.toList.length=26:=by decide +kernel
theorem Zl:∀c∈JY,c∈qO.cps.toList:=by decide +kernel
theorem QI:∀x∈gW,∀c∈x.cps.toList,c∉JY:=by decide +kernel
noncomputable def Zs (j:Int):Nat:=JY.getD j.toNat 0
theorem Vi {x:Str} (h1:1≤x.length) (h2:x.length≤8) (h3:∀c∈x.cps.toList,c∈qO.cps.toList) (h4:∃c∈x.cps.toList,c∈JY):qK x=true:=by
 unfold qK pV
 rw[decide_eq_true h1,decide_eq_true (show (x.length:Int)≤8 by omega)]
 have e:x.cps.toList.all (has qO)=true:=List.all_eq_true.mpr fun c hc=>by rw[ZE];exact decide_eq_true (h3 c hc)
 rw[e,uI]
 obtain⟨c,hc,hs⟩:=h4
 rw[decide_eq_false (fun q=>QI x q c hc hs)]
 rfl
theorem vF {x:Str} (h:qK x=true):1≤x.length∧x.length≤8∧Wk x:=by
 unfold qK at h
 rw[Bool.and_eq_true] at h
 obtain⟨h1,h2,h3⟩:=sZ h.1
 refine⟨h1,by omega,fun c hc=>Z5.2.2 c (h3 c hc),fun hc=>?_⟩
 have:¬32∈qO.cps.toList:=by decide +kernel
 exact this (h3 32 hc)
noncomputable def y3:List Str:=["part","done","let","calm","sore","end","acts","any","in","else","may","not"]
theorem iC:∀x∈y3,1≤x.length∧x.length≤4∧∀c∈x.cps.toList,c∈qO.cps.toList:=by decide +kernel
noncomputable def sX (c:Int):Int:=2 + c / 81 % (7 - (if c % 3=1 then 1 else 0))
noncomputable def JK (c:Int):Int:=c / 500 % sX c
noncomputable def Fj (c:Int):Nat:=(y3.getD (c / 12 % 12).toNat "").length
theorem ak (c:Int):2≤sX c∧sX c≤8∧(c % 3=1→sX c≤7):=by
 unfold sX
 by_cases h:c % 3=1
 ·rw[if_pos h]
  omega
 ·rw[if_neg h]
  omega
noncomputable def K0 (c:Int):Int:=(JK c + 1 + c / 3600 % (sX c - 1)) % sX c
theorem ZY (c:Int):0≤JK c∧JK c < sX c:=by
 have h:=(ak c).1
 exact⟨Int.emod_nonneg _ (by omega),Int.emod_lt_of_pos _ (by omega)⟩
theorem XC (c:Int):0≤K0 c∧K0 c < sX c∧K0 c≠JK c:=by
 have h:=(ak c).1
 have ha:=ZY c
 have r0:0≤c / 3600 % (sX c - 1):=Int.emod_nonneg _ (by omega)
 have r1:c / 3600 % (sX c - 1) < sX c - 1:=Int.emod_lt_of_pos _ (by omega)
 refine⟨Int.emod_nonneg _ (by omega),Int.emod_lt_of_pos _ (by omega),?_⟩
 unfold K0
 generalize c / 3600 % (sX c - 1)=r at *
 generalize sX c=z at *
 generalize JK c=a at *
 by_cases q:a + 1 + r < z
 ·rw[Int.emod_eq_of_lt (by omega) q]
  omega
 ·have e:a + 1 + r=(a + 1 + r - z) + z:=by omega
  rw[e,Int.add_emod_right,Int.emod_eq_of_lt (by omega) (by omega)]
  omega
theorem Js (b:Bool):(0:Int) < 7 - (if b=true then 1 else 0):=by cases b<;>decide
theorem GI (c:Int):(2 + c / 81 % (7 - (if decide (V.int (c % 3)=V.int 1)=true then (1:Int) else 0)))=sX c:=by
 unfold sX
 by_cases q:c % 3=1
 ·rw[if_pos q,if_pos (by rw[q];exact decide_eq_true rfl)]
 ·rw[if_neg q,if_neg (fun h=>q (by have:=of_decide_eq_true h;injection this))]
noncomputable def rE (j:Int):Nat:=qO.cps.toList.getD (j % 26).toNat 0
noncomputable def KO (c k:Int) (j:Nat):Nat:=if (j:Int)=K0 c then rE (k / 8 + c / 7) else if (j:Int)=JK c then Zs (k % 8) else rE (gu c j)
noncomputable def mS (c k:Int):List Nat:=(List.range (sX c).toNat).map (KO c k)
noncomputable def lJ (c k:Int):List Nat:=if c % 12=5∧k < 8 then [Zs (k % 8)] else if c % 12=7 then (y3.getD (c / 12 % 12).toNat "").cps.toList ++ [Zs (k % 8),rE (k / 8)] else if c % 3=1∧k % 2=1 then mS c (k - 1) ++ [rE (c / 3)] else mS c k
noncomputable def cE (c k:Int):Str:=⟨(lJ c k).toArray⟩
theorem fE (c k:Int):(cE c k).cps.toList=lJ c k:=rfl
noncomputable def Qc:Sp:=fun vs H Q _=>∃(c k:Int),vs=[.int c,.int k]∧0≤c∧c < 1000000000∧0≤k∧k < 208∧∀H',qk H H'→Q (.str (cE c k)) H'
theorem b8 (k:Int):Zs (k % 8)∈JY:=by
 unfold Zs
 have h0:0≤k % 8:=Int.emod_nonneg _ (by omega)
 have h1:k % 8 < 8:=Int.emod_lt_of_pos _ (by omega)
 have hj:(k % 8).toNat < JY.length:=by show (k % 8).toNat < 8;omega
 rw[List.getD_eq_getElem?_getD,List.getElem?_eq_getElem hj]
 exact List.getElem_mem hj
theorem u0 (k:Int):qO.cps.toList.getD (k % 26).toNat 0∈qO.cps.toList:=by
 have h0:0≤k % 26:=Int.emod_nonneg _ (by omega)
 have h1:k % 26 < 26:=Int.emod_lt_of_pos _ (by omega)
 have hj:(k % 26).toNat < qO.cps.toList.length:=by rw[uA.2];omega
 rw[List.getD_eq_getElem?_getD,List.getElem?_eq_getElem hj]
 exact List.getElem_mem hj
noncomputable def LS (x:Str):Prop:=∀c∈x.cps.toList,c∈qO.cps.toList
noncomputable def Hz (c k k':Int) (tl:Str):Prop:=(c % 3=1∧k % 2=1∧k'=k - 1∧tl.cps.toList=[rE (c / 3)])∨(¬(c % 3=1∧k % 2=1)∧k'=k∧tl = "")
theorem tG {a b:Int} (h:decide (V.int a=V.int b)=true):a=b:=by have:=of_decide_eq_true h;injection this
theorem tH {a b:Int} (h:a=b):decide (V.int a=V.int b)=true:=by subst h;exact decide_eq_true rfl
section
variable {P:Program} {w:World} {K:PySem.W.Frag} {mg:Str→Option Value} {base:Heap} {t:jt}
theorem oN:qo ["_law_script","_law_k"] ["_law_script","_law_k"] (z4 xY):=⟨rfl,rfl,rfl,by decide +kernel,rfl,by decide +kernel,by decide +kernel⟩
set_option maxHeartbeats 400000 in
theorem cb (T:Txt K mg t):qi P w K mg base jk 1 t.ym t.yp ["_law_script","_law_k"] (Zc K):=by
 refine T.j5.fn.ok oN (fun vs H Q E h=>(by obtain⟨_,_,_,rfl,_⟩:=h;rfl)) (fun cdv A outer s H vs Q E hr h=>?_)
 obtain⟨a,k,ns,rfl,hA,k0,kk⟩:=h
 refine⟨_,(z6 (qP (ql nj (pv 1) (qC (jG (K:=K) rfl) rfl T.vY PySem.boot_len (z0 (pv 0) z5)) (qe _))
    (z8 (qw (qg jw (qy (qf (K:=K) rfl) (pv 0) (pv 1) (fun _ _=>rfl)) z7))) qr)
   (z8 (qw z7))),?_⟩
 refine⟨_,rfl,_,rfl,a,_,rfl,.inl hA,_,_,rfl,rfl,_,rfl,?_⟩
 rw[List.length_map]
 refine jH (fun h1=>?_) (fun h1=>?_)
 ·have h1':=of_decide_eq_true h1
  rw[show yE ns k=ns.getD k.toNat 0 % 1000000000000000000000007 from if_pos h1'] at kk
  walk_at "rd"
  exact kk
 ·have h1':¬k < (ns.length:Int):=fun q=>h1 (decide_eq_true q)
  rw[show yE ns k=0 from if_neg h1'] at kk
  walk_at "rd"
  exact kk
theorem eL:qo ["_law_cell","_law_k","_law_number"] ["_law_cell","_law_k"] (z4 yM):=⟨rfl,rfl,rfl,by decide +kernel,rfl,by decide +kernel,by decide +kernel⟩
set_option maxHeartbeats 400000 in
theorem cf (T:Txt K mg t):qi P w K mg base jk 1 t.bP t.bK ["_law_cell","_law_k"] aq:=by
 refine T.xg.fn.ok eL (fun vs H Q E h=>(by obtain⟨_,_,rfl,_⟩:=h;rfl)) (fun cdv A outer s H vs Q E hr h=>?_)
 obtain⟨c,k,rfl,k0,k1,kk⟩:=h
 refine⟨_,(z6 (qZ (i:=2) eL.nd rfl (Or.inl rfl) (qg jw (qg ka (qg jw (pv 0) z7) (qg lB z7 (qg ka (pv 1) z7))) z7))
   (z8 (qw (qg wc (qg jw (qg lB (qg jw (qg lB (pv 2) (pv 2)) z7) z7) z7) z7)))),?_⟩
 walk_at "rd"
 exact kk
theorem jU:qo ["_law_cell","_law_k","_law_letters","_law_heads","_law_tail","_law_size","_law_at","_law_other","_law_name_here","_law_j","_law_letter"] ["_law_cell","_law_k"] (z4 wZ):=⟨rfl,rfl,rfl,by decide +kernel,rfl,by decide +kernel,by decide +kernel⟩
set_option maxHeartbeats 400000 in
theorem Jj (T:Txt K mg t):qi P w K mg base jk 2 t.dZ t.du ["_law_cell","_law_k"] Qc:=by
 have G_w_mix:qi P w K mg base jk 1 t.bP t.bK ["_law_cell","_law_k"] aq:=(cf T).mono (by decide)
 refine T.so.fn.ok jU (fun vs H Q E h=>(by obtain⟨_,_,rfl,_⟩:=h;rfl)) (fun cdv A outer s H vs Q E hr h=>?_)
 obtain⟨c,k,rfl,c0,c1,k0,k1,kk⟩:=h
 refine⟨_,(z6 (qZ (i:=2) jU.nd rfl (Or.inl rfl) qq)
   (z6 (PS.join (qP (PW.pt (oW (ql jd (qg jw (pv 0) z7) z7 (qe _)) (rg (ql nj (pv 1) z7 (qe _)))))
    (z8 (qw (qy pE qq (pv 1) (fun _ _=>rfl)))) qr))
   (z6 (qP (ql jd (qg jw (pv 0) z7) z7 (qe _))
    (z6 (qZ (i:=3) jU.nd rfl (Or.inl rfl) (qF (z0 qq (z0 qq (z0 qq (z0 qq (z0 qq (z0 qq (z0 qq (z0 qq (z0 qq (z0 qq (z0 qq (z0 qq z5))))))))))))) vQ)
   (z8 (qw (qg qt (qg qt (qy (qf (K:=K) rfl) (pv 3) (qg jw (qg wc (pv 0) z7) z7) (fun _ _=>rfl)) (qy pE qq (qg jw (pv 1) z7) (fun _ _=>rfl))) (qy pE (pv 2) (qg jw (qg wc (pv 1) z7) z7) (fun _ _=>rfl)))))) qr)
   (z6 (qZ (i:=4) jU.nd rfl (Or.inl rfl) qq)
   (z6 (PS.join (qP (PW.pt (oW (ql jd (qg jw (pv 0) z7) z7 (qe _)) (rg (ql jd (qg jw (pv 1) z7) z7 (qe _)))))
    (z6 (qZ (i:=4) jU.nd rfl (Or.inl rfl) (qy pE (pv 2) (qg jw (qg wc (pv 0) z7) z7) (fun _ _=>rfl)))
   (z8 (qZ (i:=1) jU.nd rfl (Or.inl rfl) (qg c8 (pv 1) z7)))) qr))
   (z6 (qZ (i:=5) jU.nd rfl (Or.inl rfl) (qg ka z7 (qg jw (qg wc (pv 0) z7) (qg c8 z7 (jn fU rfl T.rK PyProof.Rows.boot_int (z0 (va jd (qg jw (pv 0) z7) z7 (qe _)) z5))))))
   (z6 (qZ (i:=6) jU.nd rfl (Or.inl rfl) (qg jw (qg wc (pv 0) z7) (pv 5)))
   (z6 (qZ (i:=7) jU.nd rfl (Or.inl rfl) (qg jw (qg ka (qg ka (pv 6) z7) (qg jw (qg wc (pv 0) z7) (qg c8 (pv 5) z7))) (pv 5)))
   (z6 (qZ (i:=8) jU.nd rfl (Or.inl rfl) qq)
   (z6 (yJ PassesOwn.never rfl (yS rfl T.gs (z0 (pv 5) z5)) (jC (i:=9) jU.nd rfl (Or.inl rfl))
    (z6 (qZ (i:=10) jU.nd rfl (Or.inl rfl) (qy pE (pv 2) (qg jw (qm G_w_mix hr rfl T.xg.mg T.xg.fn.kp T.xg.bd .nil qQ (z0 (pv 0) (z0 (pv 9) z5))) z7) (fun _ _=>rfl)))
   (z6 (PS.join (qP (ql jd (pv 9) (pv 6) (qe _))
    (z8 (qZ (i:=10) jU.nd rfl (Or.inl rfl) (qy pE qq (qg jw (pv 1) z7) (fun _ _=>rfl)))) qr))
   (z6 (PS.join (qP (ql jd (pv 9) (pv 7) (qe _))
    (z8 (qZ (i:=10) jU.nd rfl (Or.inl rfl) (qy pE (pv 2) (qg jw (qg ka (qg wc (pv 1) z7) (qg wc (pv 0) z7)) z7) (fun _ _=>rfl)))) qr))
   (z8 (qZ (i:=8) jU.nd rfl (Or.inl rfl) (qg qt (pv 8) (pv 10))))))))
   (z8 (qw (qg qt (pv 8) (pv 4)))))))))))))),?_⟩
 have hs:(Str.ofString "fgjkqvxz").length=8:=Qf.1
 have hl:(Str.ofString "abcdefghijklmnopqrstuvwxyz").length=26:=uA.1
 have k8:0≤k % 8:=Int.emod_nonneg _ (by decide)
 have k8':k % 8 < 8:=Int.emod_lt_of_pos _ (by decide)
 walk_at "rd"
 refine⟨fun σ' H'=>(σ'=[some (.int c),some (.int k),some (.str (Str.ofString "abcdefghijklmnopqrstuvwxyz")),none,none,none,none,none,none,none,none]∧H'=H∧¬(c % 12=5∧k < 8))∨False,?_,?_⟩
 ·walk_at "rd"
  refine jH (fun h1=>?_) (fun h1=>.inl ⟨rfl,rfl,fun q=>h1 (tH q.1)⟩)
  walk_at "rd"
  refine jH (fun h2=>?_) (fun h2=>.inl ⟨rfl,rfl,fun q=>h2 (decide_eq_true q.2)⟩)
  have h2':k < 8:=of_decide_eq_true h2
  walk_at "rd"
  have em:(⟨#[(Str.ofString "fgjkqvxz").cps.toList.getD k.toNat 0]⟩:Str)=cE c k:=by
   refine kd ?_
   rw[fE]
   unfold lJ
   rw[if_pos ⟨tG h1,h2'⟩,show (Str.ofString "fgjkqvxz").cps.toList=JY from Qf.2,show k % 8=k by omega]
   rfl
  rw[em]
  exact kk _ (qk.refl _)
 intro σ' H' q
 obtain⟨rfl,rfl,hA⟩:=q.resolve_right fun z=>z
 walk_at "rd"
 refine jH (fun h1=>?_) (fun h1=>?_)
 ·have e7:c % 12=7:=tG h1
  walk_at "rd"
  intro lh H1 s1 hlh e1
  have e2:H1 lh=some (.lst (y3.map V.str)):=e1
  clear e1
  have hk:y3.length=12:=rfl
  have b0:0≤c / 12 % 12:=Int.emod_nonneg _ (by decide)
  have b1:c / 12 % 12 < 12:=Int.emod_lt_of_pos _ (by decide)
  have b2:0≤k / 8 % 26:=Int.emod_nonneg _ (by decide)
  have b3:k / 8 % 26 < 26:=Int.emod_lt_of_pos _ (by decide)
  obtain⟨g1,g2,g3⟩:=iC _ (dk (ws:=y3) (i:=(c / 12 % 12).toNat) (by omega))
  walk_at "rd"
  rw[show (y3.getD (c / 12 % 12).toNat (Str.ofString "") ++ (⟨#[(Str.ofString "fgjkqvxz").cps.toList.getD (k % 8).toNat 0]⟩:Str) ++ (⟨#[(Str.ofString "abcdefghijklmnopqrstuvwxyz").cps.toList.getD (k / 8 % 26).toNat 0]⟩:Str))=cE c k from by
   refine kd ?_
   rw[cps_append,cps_append,fE]
   unfold lJ
   rw[if_neg hA,if_pos e7,List.append_assoc,show (Str.ofString "fgjkqvxz").cps.toList=JY from Qf.2]
   rfl]
  exact kk H1 (by walk_at "sm")
 have n7:¬c % 12=7:=fun q=>h1 (tH q)
 walk_at "rd"
 refine⟨fun σ' H2=>(∃(tl:Str) (k':Int),σ'=[some (.int c),some (.int k'),some (.str (Str.ofString "abcdefghijklmnopqrstuvwxyz")),none,some (.str tl),none,none,none,none,none,none]∧H2=H'∧Hz c k k' tl)∨False,?_,?_⟩
 ·walk_at "rd"
  refine jH (fun h2=>?_) (fun h2=>.inl ⟨_,_,rfl,rfl,.inr ⟨fun q=>h2 (tH q.1),rfl,rfl⟩⟩)
  walk_at "rd"
  refine jH (fun h3=>?_) (fun h3=>.inl ⟨_,_,rfl,rfl,.inr ⟨fun q=>h3 (tH q.2),rfl,rfl⟩⟩)
  have b2:0≤c / 3 % 26:=Int.emod_nonneg _ (by decide)
  have b3:c / 3 % 26 < 26:=Int.emod_lt_of_pos _ (by decide)
  walk_at "rd"
  exact .inl ⟨_,_,rfl,rfl,.inl ⟨tG h2,tG h3,rfl,rfl⟩⟩
 intro σ' H2 q
 obtain⟨tl,k',rfl,rfl,hT⟩:=q.resolve_right fun z=>z
 clear q
 have z1:=ak c
 have a1:=ZY c
 have o1:=XC c
 have k'0:0≤k'∧k' < 208:=by rcases hT with ⟨_,_,e,_⟩ | ⟨_,e,_⟩<;>omega
 walk_at "rd"
 refine .inr ⟨_,rfl,_,_,rfl,rfl,_,_,rfl,rfl,Js _,_,_,rfl,rfl,?_⟩
 show pS 5 (V.int (2 + c / 81 % (7 - (if decide (V.int (c % 3)=V.int 1)=true then (1:Int) else 0)))) _ _ _
 rw[GI c]
 walk_at "rd"
 refine fN (lo:=0) (n:=(sX c).toNat) (fun i σ H3=>∃(x:Str) (v9 v10:Option V),σ=[some (.int c),some (.int k'),some (.str (Str.ofString "abcdefghijklmnopqrstuvwxyz")),none,some (.str tl),some (.int (sX c)),some (.int (JK c)),some (.int (K0 c)),some (.str x),v9,v10]∧H3=H2∧x.cps.toList=(List.range i).map (KO c k')∧(i=i∨False))
  ⟨"",none,none,rfl,rfl,(show ("" : Str).cps.toList=[] from by decide +kernel),.inl rfl⟩ ?_ ?_
 ·rintro i σ H3 hi ⟨x,v9,v10,rfl,rfl,hx,_⟩
  have k'8:0≤k' % 8:=Int.emod_nonneg _ (by decide)
  have k'8':k' % 8 < 8:=Int.emod_lt_of_pos _ (by decide)
  have em:(Str.ofString "fgjkqvxz").cps.toList.getD (k' % 8).toNat 0=Zs (k' % 8):=by
   rw[show (Str.ofString "fgjkqvxz").cps.toList=JY from Qf.2];rfl
  have b0:0≤(k' / 8 + c / 7) % 26:=Int.emod_nonneg _ (by decide)
  have b1:(k' / 8 + c / 7) % 26 < 26:=Int.emod_lt_of_pos _ (by decide)
  have bm:=aN c (0 + (i:Int))
  walk_at "rd"
  refine⟨fun σ' H'=>(∃ch:Nat,σ'=[some (.int c),some (.int k'),some (.str (Str.ofString "abcdefghijklmnopqrstuvwxyz")),none,some (.str tl),some (.int (sX c)),some (.int (JK c)),some (.int (K0 c)),some (.str x),some (.int (0 + (i:Int))),some (.str ⟨#[ch]⟩)]∧H'=H3∧ch=(if (i:Int)=JK c then Zs (k' % 8) else rE (gu c i)))∨False,?_,?_⟩
  ·walk_at "rd"
   refine jH (fun h2=>?_) (fun h2=>.inl ⟨_,rfl,rfl,?_⟩)
   ·have h2':=tG h2
    walk_at "rd"
    exact .inl ⟨_,rfl,rfl,by rw[if_pos (by omega)];exact em⟩
   ·rw[if_neg (fun q=>h2 (tH (by omega))),Int.zero_add]
    rfl
  intro σ' H' q
  obtain⟨ch,rfl,rfl,m1⟩:=q.resolve_right fun z=>z
  clear q
  refine⟨fun σ' H3=>(∃ch:Nat,σ'=[some (.int c),some (.int k'),some (.str (Str.ofString "abcdefghijklmnopqrstuvwxyz")),none,some (.str tl),some (.int (sX c)),some (.int (JK c)),some (.int (K0 c)),some (.str x),some (.int (0 + (i:Int))),some (.str ⟨#[ch]⟩)]∧H3=H'∧ch=KO c k' i)∨False,?_,?_⟩
  ·walk_at "rd"
   refine jH (fun h2=>?_) (fun h2=>.inl ⟨_,rfl,rfl,?_⟩)
   ·have h2':=tG h2
    walk_at "rd"
    exact .inl ⟨_,rfl,rfl,by unfold KO;rw[if_pos (by omega)];rfl⟩
   ·unfold KO
    rw[if_neg (fun q=>h2 (tH (by omega)))]
    exact m1
  intro σ' H3 q
  obtain⟨ch,rfl,rfl,m1⟩:=q.resolve_right fun z=>z
  clear q
  have hx9:x.length≤8:=by
   have:=congrArg List.length hx
   rw[List.length_map,List.length_range] at this
   (have e:x.cps.toList.length=x.length:=by simp [Str.length])
   omega
  walk_at "rd"
  refine⟨?_,.inl rfl⟩
  rw[cps_append,hx,List.range_succ,List.map_append,m1]
  rfl
 ·rintro σ H3 ⟨x,v9,v10,rfl,rfl,hx,_⟩
  have e:x ++ tl=cE c k:=by
   refine kd ?_
   rw[cps_append,fE]
   unfold lJ
   rw[if_neg hA,if_neg n7]
   rcases hT with ⟨e1,e2,e3,e4⟩ | ⟨e1,e2,e3⟩
   ·rw[if_pos ⟨e1,e2⟩,e4,hx,e3];rfl
   ·rw[if_neg e1,e3,hx,e2,show ("" : Str).cps.toList=[] from by decide +kernel,List.append_nil];rfl
  have hx9:x.length≤8:=by
   have:=congrArg List.length hx
   rw[List.length_map,List.length_range] at this
   (have e:x.cps.toList.length=x.length:=by simp [Str.length])
   omega
  have hT9:tl.length≤1:=by
   rcases hT with ⟨_,_,_,e⟩ | ⟨_,_,e⟩
   ·have:=congrArg List.length e
    have e':tl.cps.toList.length=tl.length:=by simp [Str.length]
    rw[e'] at this;simp only[List.length_cons,List.length_nil] at this;omega
   ·rw[e];decide +kernel
  walk_at "rd"
  rw[e]
  exact kk _ (qk.refl _)
end
theorem HC:qO.cps.toList.Nodup:=by decide +kernel
theorem PV:JY.Nodup:=by decide +kernel
theorem getD_inj {L:List Nat} (h:L.Nodup) {i j:Nat} (hi:i < L.length) (hj:j < L.length) (e:L.getD i 0=L.getD j 0):i=j:=by
 rw[List.getD_eq_getElem?_getD,List.getD_eq_getElem?_getD,List.getElem?_eq_getElem hi,List.getElem?_eq_getElem hj] at e
 have e':L[i]=L[j]:=e
 have hp:=List.nodup_iff_pairwise_ne.mp h
 rcases Nat.lt_trichotomy i j with q | q | q
 ·exact absurd e' (List.pairwise_iff_getElem.mp hp i j hi hj q)
 ·exact q
 ·exact absurd e'.symm (List.pairwise_iff_getElem.mp hp j i hj hi q)
theorem iN {a b:Int} (e:rE a=rE b):a % 26=b % 26:=by
 have a0:0≤a % 26:=Int.emod_nonneg _ (by decide)
 have a1:a % 26 < 26:=Int.emod_lt_of_pos _ (by decide)
 have b0:0≤b % 26:=Int.emod_nonneg _ (by decide)
 have b1:b % 26 < 26:=Int.emod_lt_of_pos _ (by decide)
 have:=getD_inj HC (i:=(a % 26).toNat) (j:=(b % 26).toNat) (by rw[uA.2];omega) (by rw[uA.2];omega) e
 omega
theorem iq {a b:Int} (e:Zs (a % 8)=Zs (b % 8)):a % 8=b % 8:=by
 have a0:0≤a % 8:=Int.emod_nonneg _ (by decide)
 have a1:a % 8 < 8:=Int.emod_lt_of_pos _ (by decide)
 have b0:0≤b % 8:=Int.emod_nonneg _ (by decide)
 have b1:b % 8 < 8:=Int.emod_lt_of_pos _ (by decide)
 have:=getD_inj PV (i:=(a % 8).toNat) (j:=(b % 8).toNat) (by show _ < 8;omega) (by show _ < 8;omega) e
 omega
theorem wR (c k:Int):(mS c k).length=(sX c).toNat:=by unfold mS;rw[List.length_map,List.length_range]
theorem nU (c k:Int):(mS c k)[(JK c).toNat]?=some (Zs (k % 8)):=by
 have a1:=ZY c
 have o1:=XC c
 unfold mS
 rw[List.getElem?_map,List.getElem?_range (by omega)]
 show some (KO c k (JK c).toNat)=_
 unfold KO
 rw[if_neg (by omega),if_pos (by omega)]
theorem JN (c k:Int):(mS c k)[(K0 c).toNat]?=some (rE (k / 8 + c / 7)):=by
 have o1:=XC c
 unfold mS
 rw[List.getElem?_map,List.getElem?_range (by omega)]
 show some (KO c k (K0 c).toNat)=_
 unfold KO
 rw[if_pos (by omega)]
theorem ZP (c k:Int):∀x∈mS c k,x∈qO.cps.toList:=by
 intro x hx
 unfold mS at hx
 obtain⟨j,_,rfl⟩:=List.mem_map.mp hx
 unfold KO
 split
 ·exact u0 _
 ·split
  ·exact Zl _ (b8 k)
  ·exact u0 _
theorem uL {c k1 k2:Int} (h1:0≤k1∧k1 < 208) (h2:0≤k2∧k2 < 208) (e:mS c k1=mS c k2):k1=k2:=by
 have e1:=nU c k1
 rw[e,nU c k2] at e1
 have e2:=JN c k1
 rw[e,JN c k2] at e2
 have f1:=iq (Option.some.inj e1)
 have f2:=iN (Option.some.inj e2)
 omega
theorem tN (c:Int) {k:Int}:qK (cE c k)=true:=by
 have z1:=ak c
 have a1:=ZY c
 have len:(cE c k).length=(lJ c k).length:=by rw[←fE];simp [Str.length]
 have key:1≤(lJ c k).length∧(lJ c k).length≤8∧(∀x∈lJ c k,x∈qO.cps.toList)∧∃x∈lJ c k,x∈JY:=by
  unfold lJ
  split
  ·exact⟨by simp,by simp,fun x hx=>by rw[List.mem_singleton.mp hx];exact Zl _ (b8 k),_,List.mem_singleton.mpr rfl,b8 k⟩
  ·split
   ·have b0:0≤c / 12 % 12:=Int.emod_nonneg _ (by decide)
    have b1:c / 12 % 12 < 12:=Int.emod_lt_of_pos _ (by decide)
    obtain⟨g1,g2,g3⟩:=iC _ (dk (ws:=y3) (i:=(c / 12 % 12).toNat) (by show _ < 12;omega))
    have e:(y3.getD (c / 12 % 12).toNat "").cps.toList.length=(y3.getD (c / 12 % 12).toNat "").length:=by simp [Str.length]
    refine⟨by rw[List.length_append];simp only[List.length_cons,List.length_nil];omega,by rw[List.length_append];simp only[List.length_cons,List.length_nil];omega,fun x hx=>?_,Zs (k % 8),by simp,b8 k⟩
    (rcases List.mem_append.mp hx with hx | hx)
    ·exact g3 x hx
    ·simp only[List.mem_cons,List.not_mem_nil,or_false] at hx
     rcases hx with rfl | rfl
     ·exact Zl _ (b8 k)
     ·exact u0 _
   ·split
    ·rename_i h
     have:=z1.2.2 h.1
     refine⟨by rw[List.length_append,wR];simp only[List.length_cons,List.length_nil];omega,by rw[List.length_append,wR];simp only[List.length_cons,List.length_nil];omega,fun x hx=>?_,Zs ((k - 1) % 8),List.mem_append_left _ (List.mem_of_getElem? (nU c (k - 1))),b8 _⟩
     (rcases List.mem_append.mp hx with hx | hx)
     ·exact ZP _ _ x hx
     ·rw[List.mem_singleton.mp hx];exact u0 _
    ·exact⟨by rw[wR];omega,by rw[wR];omega,ZP c k,Zs (k % 8),List.mem_of_getElem? (nU c k),b8 k⟩
 exact Vi (by rw[len];exact key.1) (by rw[len];exact key.2.1) key.2.2.1 key.2.2.2
theorem VQ {c k:Int} (h:c % 12=5) (q:k < 8):lJ c k=[Zs (k % 8)]:=by unfold lJ;rw[if_pos ⟨h,q⟩]
theorem Qz {c k:Int} (h:c % 12=5) (q:¬k < 8):lJ c k=mS c k:=by unfold lJ;rw[if_neg (fun z=>q z.2),if_neg (by omega),if_neg (by omega)]
theorem Gn {c k:Int} (h:c % 12=7):lJ c k=(y3.getD (c / 12 % 12).toNat "").cps.toList ++ [Zs (k % 8),rE (k / 8)]:=by unfold lJ;rw[if_neg (by omega),if_pos h]
theorem VZ {c k:Int} (h:¬c % 12=5) (h7:¬c % 12=7) (h3:c % 3=1) (q:k % 2=1):lJ c k=mS c (k - 1) ++ [rE (c / 3)]:=by unfold lJ;rw[if_neg (fun z=>h z.1),if_neg h7,if_pos ⟨h3,q⟩]
theorem Q5 {c k:Int} (h:¬c % 12=5) (h7:¬c % 12=7) (q:¬(c % 3=1∧k % 2=1)):lJ c k=mS c k:=by unfold lJ;rw[if_neg (fun z=>h z.1),if_neg h7,if_neg q]
theorem W7 {c k1 k2:Int} (h1:0≤k1∧k1 < 208) (h2:0≤k2∧k2 < 208) (e:cE c k1=cE c k2):k1=k2:=by
 have e':lJ c k1=lJ c k2:=by rw[←fE,←fE,e]
 have z1:=ak c
 have el:=congrArg List.length e'
 by_cases c5:c % 12=5
 ·by_cases q1:k1 < 8<;>by_cases q2:k2 < 8
  ·rw[VQ c5 q1,VQ c5 q2] at e'
   have:=iq (List.cons.inj e').1
   omega
  ·rw[VQ c5 q1,Qz c5 q2,wR] at el
   simp only[List.length_cons,List.length_nil] at el
   omega
  ·rw[Qz c5 q1,VQ c5 q2,wR] at el
   simp only[List.length_cons,List.length_nil] at el
   omega
  ·rw[Qz c5 q1,Qz c5 q2] at e'
   exact uL h1 h2 e'
 by_cases c7:c % 12=7
 ·rw[Gn c7,Gn c7] at e'
  have:=List.append_cancel_left e'
  obtain⟨f1,f2⟩:=List.cons.inj this
  have g1:=iq f1
  have g2:=iN (List.cons.inj f2).1
  omega
 by_cases c3:c % 3=1
 ·by_cases q1:k1 % 2=1<;>by_cases q2:k2 % 2=1
  ·rw[VZ c5 c7 c3 q1,VZ c5 c7 c3 q2] at e'
   have:=uL (by omega) (by omega) (List.append_cancel_right e')
   omega
  ·rw[VZ c5 c7 c3 q1,Q5 c5 c7 (fun z=>q2 z.2),List.length_append,wR,wR] at el
   simp only[List.length_cons,List.length_nil] at el
   omega
  ·rw[Q5 c5 c7 (fun z=>q1 z.2),VZ c5 c7 c3 q2,List.length_append,wR,wR] at el
   simp only[List.length_cons,List.length_nil] at el
   omega
  ·rw[Q5 c5 c7 (fun z=>q1 z.2),Q5 c5 c7 (fun z=>q2 z.2)] at e'
   exact uL h1 h2 e'
 ·rw[Q5 c5 c7 (fun z=>c3 z.1),Q5 c5 c7 (fun z=>c3 z.1)] at e'
  exact uL h1 h2 e'
section
variable {P:Program} {w:World} {K:PySem.W.Frag} {mg:Str→Option Value} {base:Heap} {t:jt}
end
theorem VL:("; " : Str)=⟨#[59,32]⟩:=by decide +kernel
theorem Kv:("; " : Str).cps.toList=[59,32]:=by decide +kernel
noncomputable def Y5 (l:List Nat):Prop:=∀j:Nat,l[j]?=some 59→l[j + 1]?=some 32→False
theorem JR {x:Str} {i:Nat} (h1:x.cps.toList[i]?=some 59) (h2:x.cps.toList[i + 1]?=some 32):StrLaws.At x ⟨#[59,32]⟩ x.length i:=by
 obtain⟨g1,e1⟩:=List.getElem?_eq_some_iff.mp h1
 obtain⟨g2,e2⟩:=List.getElem?_eq_some_iff.mp h2
 have hl:x.cps.toList.length=x.length:=by simp [Str.length]
 refine⟨by show i + 2≤x.length;omega,?_⟩
 rw[StrLaws.subAt_eq]
 show ((x.cps.toList.drop i).take 2 == [59,32])=true
 rw[List.drop_eq_getElem_cons g1,List.drop_eq_getElem_cons g2,e1,e2]
 rfl
theorem eZ {x:Str} {a b:Nat} (hn:∀k,a≤k→k < b→¬StrLaws.At x ⟨#[59,32]⟩ x.length k):Y5 (Builtin.Str.strSub x a b).cps.toList:=by
 intro j h1 h2
 rw[StrLaws.strSub_toList] at h1 h2
 have hj:j + 1 < b - a:=by
  have:=(List.getElem?_eq_some_iff.mp h2).1
  rw[List.length_take] at this
  omega
 rw[List.getElem?_take_of_lt (by omega),List.getElem?_drop] at h1
 rw[List.getElem?_take_of_lt hj,List.getElem?_drop] at h2
 exact hn (a + j) (by omega) (by omega) (JR h1 (by rw[Nat.add_assoc];exact h2))
theorem ny {x:Str}:∀{cuts:List Nat} {a f:Nat},StrLaws.ChainG x ⟨#[59,32]⟩ x.length a cuts f→(∀k,f≤k→¬StrLaws.At x ⟨#[59,32]⟩ x.length k)→∀p∈StrLaws.partsFrom x 2 a cuts,Y5 p.cps.toList
 | [],a,f,h,hn,y,hy=>by
  obtain rfl:f=a:=h
  rw[List.mem_singleton.mp hy]
  exact eZ fun k h1 _=>hn k h1
 | d :: r,a,f,h,hn,y,hy=>by
  rcases List.mem_cons.mp hy with rfl | hy'
  ·exact eZ h.2.2.1
  ·exact ny h.2.2.2 hn y hy'
theorem Ji (x:Str):∀p∈Txt.split x ⟨#[59,32]⟩,Y5 p.cps.toList:=by
 obtain⟨f,hG,hn⟩:=StrLaws.occ_tight x ⟨#[59,32]⟩ (by show 1≤2;decide)
 intro p hp
 have whole:(∀k,¬StrLaws.At x ⟨#[59,32]⟩ x.length k)→Y5 x.cps.toList:=fun h j h1 h2=>h j (JR h1 h2)
 unfold Txt.split at hp
 split at hp
 ·rename_i hc
  rw[List.mem_singleton.mp hp]
  refine whole fun k hA=>?_
  (rw[Bool.or_eq_true,decide_eq_true_eq,decide_eq_true_eq] at hc)
  rcases hc with q | q
  ·have:=hA.1;omega
  ·have e:Builtin.Str.strKind ⟨#[59,32]⟩=1:=by decide +kernel
   rw[e] at q
   unfold Builtin.Str.strKind at q
   split at q
   ·omega
   ·split at q<;>omega
 ·split at hp
  ·rename_i he
   rw[List.mem_singleton.mp hp]
   rw[List.isEmpty_iff.mp he] at hG
   obtain rfl:f=0:=hG
   exact whole fun k=>hn k (Nat.zero_le _)
  ·rw[StrLaws.partsBetween_eq] at hp
   exact ny hG hn p hp
noncomputable def G2 (l:List Nat):Prop:=∀j:Nat,l[j]?=some 59→l[j + 1]?=some 32
theorem G2.free {l:List Nat} (h:59∉l):G2 l:=fun j e=>absurd (List.mem_of_getElem? e) h
theorem y4 (x y:Str) (r:List Str):(Str.join "; " (x :: y :: r)).cps.toList=x.cps.toList ++ 59 :: 32 :: (Str.join "; " (y :: r)).cps.toList:=by
 rw[pA,cps_append,cps_append,Kv]
 simp
theorem G2.glue {x l:List Nat} (hx:59∉x) (hl:G2 l):G2 (x ++ 59 :: 32 :: l):=by
 intro j e
 by_cases q:j < x.length
 ·rw[List.getElem?_append_left q] at e
  exact absurd (List.mem_of_getElem? e) hx
 ·rw[List.getElem?_append_right (by omega)] at e ⊢
  rw[show j + 1 - x.length=(j - x.length) + 1 by omega]
  generalize j - x.length=i at e ⊢
  match i,e with
  | 0,_=>rfl
  | 1,e=>cases e
  | i + 2,e=>exact hl i e
theorem G2.join:∀{rows:List Str},(∀x∈rows,59∉x.cps.toList)→G2 (Str.join "; " rows).cps.toList
 | [],_=>G2.free (by decide +kernel)
 | [x],h=>by rw[L2.join_one];exact G2.free (h x (by simp))
 | x :: y :: r,h=>by
  rw[y4]
  exact G2.glue (h x (by simp)) (G2.join fun z hz=>h z (List.mem_cons_of_mem _ hz))
theorem rR:∀{ps:List Str},G2 (Str.join "; " ps).cps.toList→(∀p∈ps,Y5 p.cps.toList)→∀p∈ps,59∉p.cps.toList
 | [],_,_,p,hp=>by cases hp
 | [x],h,hn,p,hp=>by
  rw[L2.join_one] at h
  rw[List.mem_singleton.mp hp]
  intro hm
  (obtain⟨j,hj⟩:=List.getElem?_of_mem hm)
  exact hn x (by simp) j hj (h j hj)
 | x :: y :: r,h,hn,p,hp=>by
  rw[y4] at h
  have h':G2 (Str.join "; " (y :: r)).cps.toList:=fun j e=>by
   have:=h (x.cps.toList.length + (j + 2)) (by rw[List.getElem?_append_right (by omega),Nat.add_sub_cancel_left];exact e)
   rw[List.getElem?_append_right (by omega),show x.cps.toList.length + (j + 2) + 1 - x.cps.toList.length=j + 1 + 2 by omega] at this
   exact this
  (rcases List.mem_cons.mp hp with rfl | hp)
  ·intro hm
   (obtain⟨j,hj⟩:=List.getElem?_of_mem hm)
   have hjl:=(List.getElem?_eq_some_iff.mp hj).1
   have e:=h j (by rw[List.getElem?_append_left hjl];exact hj)
   by_cases q:j + 1 < p.cps.toList.length
   ·rw[List.getElem?_append_left q] at e
    exact hn p (by simp) j hj e
   ·rw[List.getElem?_append_right (by omega),show j + 1 - p.cps.toList.length=0 by omega] at e
    cases e
  ·exact rR h' (fun z hz=>hn z (List.mem_cons_of_mem _ hz)) p hp
theorem tF:∀{as bs:List Str},as≠[]→bs≠[]→(∀x∈as,59∉x.cps.toList)→(∀x∈bs,59∉x.cps.toList)→Str.join "; " as=Str.join "; " bs→as=bs
 | [],_,h,_,_,_,_=>absurd rfl h
 | _ :: _,[],_,h,_,_,_=>absurd rfl h
 | [a],[b],_,_,_,_,e=>by rw[show a=b from e]
 | [a],b :: b' :: r,_,_,ha,_,e=>by
  have e':=congrArg (fun z=>z.cps.toList) e
  simp only[y4,L2.join_one] at e'
  exact absurd (by rw[e'];simp) (ha a (by simp))
 | a :: a' :: r,[b],_,_,_,hb,e=>by
  have e':=congrArg (fun z=>z.cps.toList) e
  simp only[y4,L2.join_one] at e'
  exact absurd (by rw[←e'];simp) (hb b (by simp))
 | a :: a' :: r,b :: b' :: r',_,_,ha,hb,e=>by
  have e':=congrArg (fun z=>z.cps.toList) e
  simp only[y4] at e'
  obtain⟨e1,e2⟩:=oO (ha a (by simp)) (hb b (by simp)) e'
  have:=tF (as:=a' :: r) (bs:=b' :: r') (by simp) (by simp) (fun x hx=>ha x (List.mem_cons_of_mem _ hx)) (fun x hx=>hb x (List.mem_cons_of_mem _ hx)) (kd (List.cons.inj e2).2)
  rw[kd e1,this]
theorem Jf {rows:List Str} (h:rows≠[]) (hb:∀x∈rows,59∉x.cps.toList):Txt.split (Txt.join "; " rows) "; " = rows:=by
 rw[join_eq]
 have hj:Str.join "; " (Txt.split (Str.join "; " rows) "; ")=Str.join "; " rows:=StrLaws.join_split _ _
 refine(tF h ?_ hb ?_ hj.symm).symm
 ·intro q
  have:=PyProof.Rows.split_pos (Str.join "; " rows) "; "
  rw[q] at this
  simp at this
 ·refine rR ?_ ?_
  ·rw[hj];exact G2.join hb
  ·rw[VL];exact Ji _
section
variable {P:Program} {w:World} {K:PySem.W.Frag} {mg:Str→Option Value} {base:Heap} {t:jt}
end
noncomputable def mh (ws:List Str):Str:=Txt.join " " ws
theorem Z9 {x:Str} (h:qK x=true):32∉x.cps.toList:=(vF h).2.2.nb
theorem Z3:∀x∈(["let","be","part","done","parties","acts","calm","sore","end"]:List Str),32∉x.cps.toList∧59∉x.cps.toList∧x.length≤7:=by decide +kernel
theorem VU {a b:Str} (ha:qK a=true) (hb:qK b=true):mv [10,0,11,0] ["let",a,"be",b]:=.cons (.inr (.inr (.inr ⟨by decide,rfl⟩))) (.cons (.inl ⟨rfl,ha⟩) (.cons (.inr (.inr (.inr ⟨by decide,rfl⟩))) (.cons (.inl ⟨rfl,hb⟩) .nil)))
theorem Kj {n:Str} (h:qK n=true):mv [12,0] ["part",n]:=.cons (.inr (.inr (.inr ⟨by decide,rfl⟩))) (.cons (.inl ⟨rfl,h⟩) .nil)
theorem fe {fr:List Fr} {r:Rw}:(push fr r).length=fr.length:=by
 cases fr with
 | nil=>rfl
 | cons f fr=>obtain⟨a,b,c⟩:=f;rfl
section
variable {P:Program} {w:World} {K:PySem.W.Frag} {mg:Str→Option Value} {base:Heap} {t:jt}
end
theorem cx {n:Int} (h1:1≤n) (h2:n < 10 ^ 20):Rt 1 (Str.ofString (toString n))∧bL (Str.ofString (toString n))=n∧Wk (Str.ofString (toString n))∧(Str.ofString (toString n)).length≤20:=by
 obtain⟨m,rfl⟩:=Int.eq_ofNat_of_zero_le (show 0≤n by omega)
 have e:=PySem.W.KIN.signs_num m
 have hg:=XW (n:=(m:Int)) (by omega) (by omega)
 generalize hs:Str.ofString (toString ((m:Nat):Int))=s at *
 have hl:s.length=(Nat.toDigits 10 m).length:=by
  have:=congrArg List.length e
  rw[List.length_map] at this
  rw[←this]
  simp [Str.length]
 have hdig:PySem.NumText.AllDigits s.cps.toList:=by
  rw[e]
  intro c hc
  obtain⟨ch,hch,rfl⟩:=List.mem_map.mp hc
  have:=Nat.isDigit_of_mem_toDigits (b:=10) (by decide) (by decide) hch
  simp [Char.isDigit] at this
  exact⟨by have:=this.1;exact this,by have:=this.2;exact this⟩
 have hv:PySem.NumText.digitsVal s.cps.toList=m:=by rw[e];exact PySem.W.KIN.val_back m
 have hhead:s.cps.toList.head?≠some 48:=by
  intro q
  have ta:=PySem.NumText.toDigits_all s.cps.toList hdig
  rw[hv] at ta
  cases qc:s.cps.toList with
  | nil=>rw[qc] at q;cases q
  | cons c r=>
   rw[qc] at q ta hv
   have hc:c=48:=by simpa using q
   subst hc
   rw[List.dropWhile_cons] at ta
   have hlen:(Nat.toDigits 10 m).length=r.length + 1:=by
    rw[←hl]
    have:s.length=s.cps.toList.length:=by simp [Str.length]
    rw[this,qc];rfl
   have hd:(r.dropWhile (· == 48)).length≤r.length:=(List.dropWhile_sublist _).length_le
   cases qd:r.dropWhile (· == 48) with
   | nil=>
    simp only[show ((48:Nat) == 48)=true from rfl,if_true,qd] at ta
    rw[ta] at hlen
    have:r=[]:=by cases r;rfl;simp at hlen
    subst this
    have:PySem.NumText.digitsVal [48]=0:=rfl
    omega
   | cons d r'=>
    simp only[show ((48:Nat) == 48)=true from rfl,if_true,qd] at ta
    rw[ta,List.length_map] at hlen
    rw[qd] at hd
    omega
 have hlen20:s.length≤20:=by
  rw[hl]
  refine digits10_le (by decide) ?_
  exact_mod_cast h2
 have hw:pV s vx 20=true:=by
  unfold pV
  rw[decide_eq_true hg.2.1,decide_eq_true (show (s.length:Int)≤20 by omega)]
  simp only[Bool.true_and]
  exact List.all_eq_true.mpr fun c hc=>by rw[iM];exact decide_eq_true (hdig c hc)
 have hn:bL s=(m:Int):=by
  unfold bL
  rw[if_pos ⟨hw,hhead⟩,hv]
 have nl:qK s=false:=by
  cases q:qK s with
  | false=>rfl
  | true=>rw[name_num q] at hn;omega
 refine⟨.inr (.inl ⟨rfl,nl,by rw[hn];omega,fun q=>?_⟩),hn,⟨hg.2.2,fun hc=>?_⟩,hlen20⟩
 ·rw[(u7 s q).2] at hn;omega
 ·have:=hdig 32 hc;omega
theorem Vs:∀x∈lits,(∀c∈x.cps.toList,c < 128)∧32∉x.cps.toList∧x.length≤4:=by decide +kernel
theorem rn {x:Str} (h:qK x=true):Rt 0 x:=.inl ⟨rfl,h⟩
theorem rl {x:Str} {k:Nat} (h:lits[k]?=some x):Rt (k + 3) x:=.inr (.inr (.inr ⟨by omega,by rw[Nat.add_sub_cancel];exact h⟩))
structure Wt (k:Nat) (x:Str):Prop where
 rt:Rt k x
 wk:Wk x
 len:x.length≤20
theorem wn {x:Str} (h:qK x=true):Wt 0 x:=⟨rn h,(vF h).2.2,by have:=(vF h).2.1;omega⟩
theorem wl {x:Str} {k:Nat} (h:lits[k]?=some x):Wt (k + 3) x:=by
 obtain⟨h1,h2,h3⟩:=Vs x (List.mem_of_getElem? h)
 exact⟨rl h,⟨h1,h2⟩,by omega⟩
noncomputable abbrev JX:List Nat→List Str→Prop:=Paired Wt
theorem JX.YA {ks:List Nat} {ws:List Str} (h:JX ks ws):mv ks ws:=Paired.Xo h fun _ _ q=>q.rt
theorem JX.wk:∀{ks:List Nat} {ws:List Str},JX ks ws→∀x∈ws,Wk x∧x.length≤20
 | _,_,.nil,x,hx=>by cases hx
 | _,_,.cons r t,x,hx=>by
  (rcases List.mem_cons.mp hx with rfl | hx)
  ·exact⟨r.wk,r.len⟩
  ·exact JX.wk t x hx
theorem Vz {ks:List Nat} {ws:List Str} (r:mv ks ws) (h1:j7 ks uJ=false) (h2:j7 ks fi=false) (h3:j7 ks Zj=false) (h4:j7 ks c9=false):jL ws=none:=by
 obtain⟨f1,f2,f3,f4,f5,f6⟩:=xf
 obtain⟨o1,o2,o3,o4,o5,o6⟩:=Zw
 unfold jL
 rw[if_neg (gw r o1 f1 h1),if_neg (gw r o2 f2 h2),if_neg (gw r o3 f3 h3),if_neg (gw r o4 f4 h4)]
noncomputable def af (u:Str):Prop:=qK u=true∨u = "any"
theorem wu {u:Str} (h:af u):∃k,(k=0∨k=3)∧Wt k u:=by
 rcases h with h | rfl
 ·exact⟨0,.inl rfl,wn h⟩
 ·exact⟨3,.inr rfl,wl (k:=0) rfl⟩
theorem eQ {ks:List Nat} {ws:List Str} (r:mv ks ws) (h:j7 (ks.take 2) nk=true):kW (ws.take 2) rM=true:=mx (r.take 2) Zw.2.2.2.2.2 xf.2.2.2.2.2 h
theorem uk:∀{rs:List Str},(∀x∈rs,qK x=true)→JX (List.replicate rs.length 0) rs
 | [],_=>.nil
 | x :: r,h=>.cons (wn (h x (by simp))) (uk fun y hy=>h y (List.mem_cons_of_mem _ hy))
noncomputable def p6 (m:Nat):List Nat:=[12,0,13] ++ List.replicate m 0
noncomputable def Wd (m:Nat):Bool:=!j7 (p6 m) uJ && !j7 (p6 m) fi && !j7 (p6 m) Zj && !j7 (p6 m) c9 && !j7 (p6 m) VG && !Wu (p6 m) && j7 ((p6 m).take 2) nk
theorem Bq:∀m < 13,1≤m→Wd m=true:=by decide +kernel
inductive Ew where
 | lt (a b:Str)
 | mu (l w a:Str) (n:Int) (r:Str)
 | my (l w a:Str)
 | bn (l w a r:Str)
 | pw (l w a r:Str)
 | pt (n:Str) (rs:List Str)
 | dn
noncomputable def Ew.ws:Ew→List Str
 | .lt a b=>["let",a,"be",b]
 | .mu l w a n r=>[l,w,"must",a,"by",Str.ofString (toString n),"else",r]
 | .my l w a=>[l,w,"may",a]
 | .bn l w a r=>[l,w,"may","not",a,"else",r]
 | .pw l w a r=>[l,w,"by",a,"to",r]
 | .pt n []=>["part",n]
 | .pt n (x :: rs)=>"part" :: n :: "in" :: x :: rs
 | .dn=>["done"]
noncomputable def Ew.row (e:Ew):Str:=Txt.join " " e.ws
noncomputable def Ew.ok:Ew→Prop
 | .lt a b=>qK a=true∧qK b=true
 | .mu l w a n r=>qK l=true∧qK w=true∧qK a=true∧1≤n∧n < 10 ^ 20∧qK r=true
 | .my l w a=>qK l=true∧af w∧qK a=true
 | .bn l w a r=>qK l=true∧af w∧qK a=true∧qK r=true
 | .pw l w a r=>qK l=true∧af w∧qK a=true∧qK r=true
 | .pt n rs=>qK n=true∧(∀x∈rs,qK x=true)∧rs.length≤12
 | .dn=>True
noncomputable def Ew.take (fr:List Fr) (ls:List Str):Ew→Option (List Fr × List Str)
 | .lt a b=>some (push fr (.lt a b),ls)
 | .mu l w a n r=>if l∈ls then none else some (push fr (.cl 0 l w a n r),ls ++ [l])
 | .my l w a=>if l∈ls then none else some (push fr (.cl 1 l w a 0 ""),ls ++ [l])
 | .bn l w a r=>if l∈ls then none else some (push fr (.cl 2 l w a 0 r),ls ++ [l])
 | .pw l w a r=>if l∈ls then none else some (push fr (.cl 3 l w a 0 r),ls ++ [l])
 | .pt n rs=>if fr.length=7∨n∈ls then none else some ((n,rs,[]) :: fr,ls ++ [n])
 | .dn=>match fr with
  | (n,rs,rows) :: (n2,rs2,rows2) :: fr'=>some ((n2,rs2,rows2 ++ [.pt n rs rows]) :: fr',ls)
  | _=>none
theorem Ew.P7:∀{e:Ew},e.ok→(∃ks,JX ks e.ws)∨e=.dn
 | .lt a b,h=>.inl ⟨_,.cons (wl (k:=7) rfl) (.cons (wn h.1) (.cons (wl (k:=8) rfl) (.cons (wn h.2) .nil)))⟩
 | .mu l w a n r,h=>by
  obtain⟨t1,t2,t3,t4⟩:=cx h.2.2.2.1 h.2.2.2.2.1
  exact .inl ⟨[0,0,4,0,7,1,8,0],.cons (wn h.1) (.cons (wn h.2.1) (.cons (wl (k:=1) rfl) (.cons (wn h.2.2.1) (.cons (wl (k:=4) rfl) (.cons ⟨t1,t3,t4⟩ (.cons (wl (k:=5) rfl) (.cons (wn h.2.2.2.2.2) .nil)))))))⟩
 | .my l w a,h=>by
  obtain⟨k,hk,hw⟩:=wu h.2.1
  exact .inl ⟨[0,k,5,0],.cons (wn h.1) (.cons hw (.cons (wl (k:=2) rfl) (.cons (wn h.2.2) .nil)))⟩
 | .bn l w a r,h=>by
  obtain⟨k,hk,hw⟩:=wu h.2.1
  exact .inl ⟨[0,k,5,6,0,8,0],.cons (wn h.1) (.cons hw (.cons (wl (k:=2) rfl) (.cons (wl (k:=3) rfl) (.cons (wn h.2.2.1) (.cons (wl (k:=5) rfl) (.cons (wn h.2.2.2) .nil))))))⟩
 | .pw l w a r,h=>by
  obtain⟨k,hk,hw⟩:=wu h.2.1
  exact .inl ⟨[0,k,7,0,9,0],.cons (wn h.1) (.cons hw (.cons (wl (k:=4) rfl) (.cons (wn h.2.2.1) (.cons (wl (k:=6) rfl) (.cons (wn h.2.2.2) .nil)))))⟩
 | .pt n [],h=>.inl ⟨_,.cons (wl (k:=9) rfl) (.cons (wn h.1) .nil)⟩
 | .pt n (x :: rs),h=>.inl ⟨_,.cons (wl (k:=9) rfl) (.cons (wn h.1) (.cons (wl (k:=10) rfl) (uk h.2.1)))⟩
 | .dn,_=>.inr rfl
theorem Ew.wk {e:Ew} (h:e.ok):∀x∈e.ws,Wk x∧x.length≤20:=by
 rcases Ew.P7 h with ⟨ks,w⟩ | rfl
 ·exact w.wk
 ·intro x hx
  simp only[Ew.ws,List.mem_cons,List.not_mem_nil,or_false] at hx
  subst hx
  exact⟨⟨by unfold asc;decide +kernel,by decide +kernel⟩,by decide +kernel⟩
theorem Ew.ne (e:Ew):e.ws≠[]:=by
 cases e with
 | pt n rs=>cases rs<;>simp [Ew.ws]
 | _=>simp [Ew.ws]
theorem Ew.yr {e:Ew} (h:e.ok):yr e.row=e.ws:=sk e.ne fun x hx=>(Ew.wk h x hx).1.nb
theorem g7:Ew.row .dn = "done":=by decide +kernel
theorem Ew.XJ {e:Ew} (h:e.ok) (hn:e≠.dn):¬e.row = "done":=fun q=>by
 have e1:=Ew.yr h
 have e2:My.yr (Ew.row .dn)=(["done"]:List Str):=Ew.yr (e:=.dn) True.intro
 rw[q,←g7,e2] at e1
 cases e with
 | dn=>exact hn rfl
 | pt n rs=>cases rs<;>simp [Ew.ws] at e1
 | _=>simp [Ew.ws] at e1
theorem Ew.takes {e:Ew} (h:e.ok) (fr:List Fr) (ls:List Str):pX fr ls e.row=e.take fr ls:=by
 unfold pX
 by_cases hd:e=.dn
 ·subst hd
  rw[if_pos g7]
  rfl
 rw[if_neg (Ew.XJ h hd),Ew.yr h]
 cases e with
 | dn=>exact absurd rfl hd
 | lt a b=>
  have r:=VU h.1 h.2
  have f5:wt (Ew.lt a b).ws=none:=if_neg (gw (r.take 2) Zw.2.2.2.2.2 xf.2.2.2.2.2 (by decide))
  have f6:jL (Ew.lt a b).ws=none:=Vz r (by decide) (by decide) (by decide) (by decide)
  have f7:Q2 (Ew.lt a b).ws=some (a,b):=if_pos (mx r Zw.2.2.2.2.1 xf.2.2.2.2.1 (by decide))
  rw[f5]
  dsimp only
  rw[f6]
  dsimp only
  rw[f7]
  rfl
 | mu l w a n r'=>
  obtain⟨t1,t2,t3,t4⟩:=cx h.2.2.2.1 h.2.2.2.2.1
  have hw:JX [0,0,4,0,7,1,8,0] (Ew.mu l w a n r').ws:=.cons (wn h.1) (.cons (wn h.2.1) (.cons (wl (k:=1) rfl) (.cons (wn h.2.2.1) (.cons (wl (k:=4) rfl) (.cons ⟨t1,t3,t4⟩ (.cons (wl (k:=5) rfl) (.cons (wn h.2.2.2.2.2) .nil)))))))
  have r:=hw.YA
  have f5:wt (Ew.mu l w a n r').ws=none:=r.part (by decide)
  have f6:jL (Ew.mu l w a n r').ws=some (0,l,w,a,n,r'):=by
   unfold jL
   rw[if_pos (mx r Zw.1 xf.1 (by decide))]
   show some ((0:Int),l,w,a,bL (Str.ofString (toString n)),r')=_
   rw[t2]
  rw[f5]
  dsimp only
  rw[f6]
  rfl
 | my l w a=>
  obtain⟨k,hk,hu⟩:=wu h.2.1
  have hw:JX [0,k,5,0] (Ew.my l w a).ws:=.cons (wn h.1) (.cons hu (.cons (wl (k:=2) rfl) (.cons (wn h.2.2) .nil)))
  have r:=hw.YA
  have hdd:∀j,j=0∨j=3→(j7 [0,j,5,0] uJ=false∧j7 [0,j,5,0] fi=true∧nv [0,j,5,0]=false):=by
   rintro j (rfl | rfl)<;>decide
  obtain⟨d1,d2,d4⟩:=hdd k hk
  have f5:wt (Ew.my l w a).ws=none:=r.part d4
  have f6:jL (Ew.my l w a).ws=some ((1:Int),l,w,a,(0:Int),("" : Str)):=by
   unfold jL
   rw[if_neg (gw r Zw.1 xf.1 d1),if_pos (mx r Zw.2.1 xf.2.1 d2)]
   rfl
  rw[f5]
  dsimp only
  rw[f6]
  rfl
 | bn l w a r'=>
  obtain⟨k,hk,hu⟩:=wu h.2.1
  have hw:JX [0,k,5,6,0,8,0] (Ew.bn l w a r').ws:=.cons (wn h.1) (.cons hu (.cons (wl (k:=2) rfl) (.cons (wl (k:=3) rfl) (.cons (wn h.2.2.1) (.cons (wl (k:=5) rfl) (.cons (wn h.2.2.2) .nil))))))
  have r:=hw.YA
  have hdd:∀j,j=0∨j=3→(j7 [0,j,5,6,0,8,0] uJ=false∧j7 [0,j,5,6,0,8,0] fi=false∧j7 [0,j,5,6,0,8,0] Zj=true∧nv [0,j,5,6,0,8,0]=false):=by
   rintro j (rfl | rfl)<;>decide
  obtain⟨d1,d2,d3,d4⟩:=hdd k hk
  have f5:wt (Ew.bn l w a r').ws=none:=r.part d4
  have f6:jL (Ew.bn l w a r').ws=some (2,l,w,a,0,r'):=by
   unfold jL
   rw[if_neg (gw r Zw.1 xf.1 d1),if_neg (gw r Zw.2.1 xf.2.1 d2),if_pos (mx r Zw.2.2.1 xf.2.2.1 d3)]
   rfl
  rw[f5]
  dsimp only
  rw[f6]
  rfl
 | pw l w a r'=>
  obtain⟨k,hk,hu⟩:=wu h.2.1
  have hw:JX [0,k,7,0,9,0] (Ew.pw l w a r').ws:=.cons (wn h.1) (.cons hu (.cons (wl (k:=4) rfl) (.cons (wn h.2.2.1) (.cons (wl (k:=6) rfl) (.cons (wn h.2.2.2) .nil)))))
  have r:=hw.YA
  have hdd:∀j,j=0∨j=3→(j7 [0,j,7,0,9,0] uJ=false∧j7 [0,j,7,0,9,0] fi=false∧j7 [0,j,7,0,9,0] Zj=false∧j7 [0,j,7,0,9,0] c9=true∧nv [0,j,7,0,9,0]=false):=by
   rintro j (rfl | rfl)<;>decide
  obtain⟨d1,d2,d3,d5,d4⟩:=hdd k hk
  have f5:wt (Ew.pw l w a r').ws=none:=r.part d4
  have f6:jL (Ew.pw l w a r').ws=some (3,l,w,a,0,r'):=by
   unfold jL
   rw[if_neg (gw r Zw.1 xf.1 d1),if_neg (gw r Zw.2.1 xf.2.1 d2),if_neg (gw r Zw.2.2.1 xf.2.2.1 d3),if_pos (mx r Zw.2.2.2.1 xf.2.2.2.1 d5)]
   rfl
  rw[f5]
  dsimp only
  rw[f6]
  rfl
 | pt n rs=>
  have f5:wt (Ew.pt n rs).ws=some (n,rs):=by
   cases rs with
   | nil=>
    have r:mv [12,0] (Ew.pt n []).ws:=Kj h.1
    unfold wt
    rw[if_pos (eQ r (by decide)),if_pos (show (Ew.pt n []).ws.length=2 from rfl)]
    rfl
   | cons x rs=>
    have h3:JX [12,0,13] ["part",n,"in"]:=.cons (wl (k:=9) rfl) (.cons (wn h.1) (.cons (wl (k:=10) rfl) .nil))
    have r:mv (p6 (x :: rs).length) (Ew.pt n (x :: rs)).ws:=h3.YA.append (uk h.2.1).YA
    have h2:(x :: rs).length≤12:=h.2.2
    have hpat:=Bq (x :: rs).length (by omega) (by simp)
    unfold Wd at hpat
    simp only[Bool.and_eq_true,Bool.not_eq_true'] at hpat
    have ha:mw (x :: rs) 12=true:=by
     unfold mw
     rw[decide_eq_true (show 1≤(x :: rs).length by simp),decide_eq_true (show ((x :: rs).length:Int)≤12 by omega)]
     exact List.all_eq_true.mpr h.2.1
    unfold wt
    have hl:¬(Ew.pt n (x :: rs)).ws.length=2:=by simp [Ew.ws]
    have hdr:(Ew.pt n (x :: rs)).ws.drop 3=x :: rs:=rfl
    rw[if_pos (eQ r hpat.2),if_neg hl,hdr,if_neg (fun q=>q.elim (fun q=>q rfl) (fun q=>by rw[ha] at q;cases q))]
    rfl
  rw[f5]
  rfl
section
variable {P:Program} {w:World} {K:PySem.W.Frag} {mg:Str→Option Value} {base:Heap} {t:jt}
end
structure YS (ps as:List Str) (qR:List (Str × Str)):Prop where
 p1:1≤ps.length
 p2:ps.length≤4
 a1:1≤as.length
 a2:as.length≤6
 r1:1≤qR.length
 r2:qR.length≤12
 pn:∀x∈ps,qK x=true
 an:∀x∈as,qK x=true
 rn:∀mn∈qR,dh mn
 nd:(ps ++ as ++ qR.map (·.2)).Nodup
noncomputable def cQ (mn:Str × Str):Str:=mh [mn.1,mn.2]
noncomputable def rowsOf (ps as:List Str) (qR:List (Str × Str)) (evs:List Ew):List Str:=mh ("parties" :: ps) :: mh ("acts" :: as) :: (qR.map cQ ++ evs.map Ew.row)
theorem aj {x:Str} {ns:List Str} (hx:x∈(["parties","acts"]:List Str)) (hn:∀y∈ns,qK y=true):yr (mh (x :: ns))=x :: ns:=by
 refine sk (by simp) fun y hy=>?_
 rcases List.mem_cons.mp hy with rfl | hy
 ·simp only[List.mem_cons,List.not_mem_nil,or_false] at hx
  rcases hx with rfl | rfl
  ·exact(Z3 _ (by simp)).1
  ·exact(Z3 _ (by simp)).1
 ·exact Z9 (hn y hy)
theorem QK {ns:List Str} (hn:∀y∈ns,qK y=true):ns.all qK=true:=List.all_eq_true.mpr hn
theorem ua {x:Str} {ns:List Str} {m:Int} (h1:1≤ns.length) (hn:∀y∈ns,qK y=true) (hm:(ns.length:Int)≤m):vb (x :: ns) x m=ns:=by
 unfold vb mw
 rw[List.drop_one,List.tail_cons,QK hn,decide_eq_true h1,show wd (x :: ns) 0=x from rfl,decide_eq_true hm,if_neg (by simp)]
theorem rz:∀x∈xo,32∉x.cps.toList∧59∉x.cps.toList∧x.length≤4∧x≠"part"∧x≠"done":=by decide +kernel
theorem YJ {mn:Str × Str} (h:dh mn):yr (cQ mn)=[mn.1,mn.2]:=by
 refine sk (by simp) fun y hy=>?_
 simp only[List.mem_cons,List.not_mem_nil,or_false] at hy
 rcases hy with rfl | rfl
 ·exact(rz _ h.1).1
 ·exact Z9 h.2
theorem X5 {mn:Str × Str} (h:dh mn):fZ (yr (cQ mn))=some mn:=by
 rw[YJ h]
 unfold fZ
 rw[if_pos ⟨rfl,by rw[uI];exact decide_eq_true h.1,h.2⟩]
 rfl
theorem X3 {e:Ew} (h:e.ok):fZ (yr e.row)=none:=by
 rw[Ew.yr h]
 unfold fZ
 refine if_neg fun q=>?_
 have hp:("part" : Str)∉xo:=by decide +kernel
 have two:∀{x y:Str} {r:List Str},1≤r.length→¬(x :: y :: r).length=2:=fun {x y r} h=>by simp only[List.length_cons];omega
 cases e with
 | pt n rs=>
  cases rs with
  | nil=>
   have:=q.2.1
   rw[uI] at this
   exact hp (of_decide_eq_true this)
  | cons x rs=>exact two (by simp) q.1
 | dn=>exact absurd q.1 (by simp [Ew.ws])
 | lt a b=>exact two (by simp) q.1
 | mu l w a n r=>exact two (by simp) q.1
 | my l w a=>exact two (by simp) q.1
 | bn l w a r=>exact two (by simp) q.1
 | pw l w a r=>exact two (by simp) q.1
theorem nu {taken:List Str} {evs:List Ew} (he:∀e∈evs,e.ok):∀{qR found:List (Str × Str)},(∀mn∈qR,dh mn)→(taken ++ (found ++ qR).map (·.2)).Nodup→found ++ qR≠[]→found.length + qR.length≤12→
  xT taken found (qR.map cQ ++ evs.map Ew.row)=.ok (found ++ qR)
 | [],found,_,_,hne,hf=>by
  rw[List.append_nil] at hne
  rw[List.map_nil,List.nil_append,List.append_nil]
  cases evs with
  | nil=>simp only[List.map_nil,xT,if_neg hne]
  | cons e r=>
   rw[List.map_cons,xT,X3 (he e List.mem_cons_self)]
   dsimp only
   rw[if_neg hne]
 | mn :: r,found,hr,hnd,hne,hf=>by
  have e:found ++ mn :: r=(found ++ [mn]) ++ r:=by simp
  rw[e] at hnd hne
  rw[List.map_cons,List.cons_append,xT,X5 (hr mn List.mem_cons_self)]
  dsimp only
  have hnd1:(taken ++ (found ++ [mn]).map (·.2)).Nodup:=by
   rw[List.map_append,←List.append_assoc] at hnd
   exact(List.nodup_append.mp hnd).1
  simp only[List.length_cons] at hf
  rw[if_neg (fun z=>z.elim (fun z=>by omega) (fun z=>z hnd1)),nu he (fun x hx=>hr x (List.mem_cons_of_mem _ hx)) hnd hne (by rw[List.length_append];simp only[List.length_cons,List.length_nil];omega),e]
theorem VC {ps as:List Str} {qR:List (Str × Str)} {evs:List Ew} (h:YS ps as qR) (he:∀e∈evs,e.ok) :
  pZ (rowsOf ps as qR evs)=match WD (rowsOf ps as qR evs).length (gE (2 + qR.length) (evs.map Ew.row) [("whole",[],[])] []) with
   | .error n=>.error n
   | .ok rw=>.ok (ps,as,qR,rw):=by
 have e0:yr (wd (rowsOf ps as qR evs) 0)=("parties" : Str) :: ps:=aj (by simp) h.pn
 have e1:yr (wd (rowsOf ps as qR evs) 1)=("acts" : Str) :: as:=aj (by simp) h.an
 have hlen:(rowsOf ps as qR evs).length=2 + qR.length + evs.length:=by unfold rowsOf;simp only[List.length_cons,List.length_append,List.length_map];omega
 have nd:=h.nd
 have nd2:(ps ++ as).Nodup:=(List.nodup_append.mp nd).1
 have nd1:ps.Nodup:=(List.nodup_append.mp nd2).1
 have h1:=h.p1;have h2:=h.p2;have h3:=h.a1;have h4:=h.a2;have h5:=h.r1;have h6:=h.r2
 have nps:ps≠[]:=fun z=>by rw[z] at h1;simp at h1
 have nas:as≠[]:=fun z=>by rw[z] at h3;simp at h3
 have nrm:qR≠[]:=fun z=>by rw[z] at h5;simp at h5
 have hn0:wM (rowsOf ps as qR evs) 0 "parties" 4 []=some ps:=by
  unfold wM
  rw[if_neg (by omega),e0]
  dsimp only
  rw[ua h.p1 h.pn (by omega),if_neg (fun z=>z.elim nps (fun z=>z (by simpa using nd1)))]
 have hn1:wM (rowsOf ps as qR evs) 1 "acts" 6 ps=some as:=by
  unfold wM
  rw[if_neg (by omega),e1]
  dsimp only
  rw[ua h.a1 h.an (by omega),if_neg (fun z=>z.elim nas (fun z=>z nd2))]
 have hrr:xT (ps ++ as) [] ((rowsOf ps as qR evs).drop 2)=.ok qR:=by
  have:=nu (taken:=ps ++ as) (evs:=evs) he (qR:=qR) (found:=[]) h.rn (by simpa using nd) (by simpa using nrm) (by simpa using h6)
  simpa [rowsOf] using this
 have hdrop:(rowsOf ps as qR evs).drop (2 + qR.length)=evs.map Ew.row:=by
  unfold rowsOf
  rw[show 2 + qR.length=qR.length + 1 + 1 by omega,List.drop_succ_cons,List.drop_succ_cons]
  rw[show qR.length=(qR.map cQ).length by rw[List.length_map],List.drop_left]
 unfold pZ
 rw[hn0]
 dsimp only
 rw[hn1]
 dsimp only
 rw[hrr]
 dsimp only
 unfold dv
 rw[hdrop]
 all_goals (cases WD (rowsOf ps as qR evs).length (gE (2 + qR.length) (evs.map Ew.row) [("whole",[],[])] [])<;>rfl)
noncomputable def Zb:Nat→List Ew→List Fr→List Str→Except Nat (List Fr)
 | _,[],fr,_=>.ok fr
 | i,e :: r,fr,ls=>if i=90 then .error i else match e.take fr ls with
  | none=>.error i
  | some (fr',ls')=>Zb (i + 1) r fr' ls'
theorem ia:∀{evs:List Ew} {i:Nat} {fr:List Fr} {ls:List Str},(∀e∈evs,e.ok)→gE i (evs.map Ew.row) fr ls=Zb i evs fr ls
 | [],_,_,_,_=>rfl
 | e :: r,i,fr,ls,h=>by
  rw[List.map_cons,gE,Zb,Ew.takes (h e List.mem_cons_self)]
  by_cases q:i=90
  ·rw[if_pos q,if_pos q]
  ·rw[if_neg q,if_neg q]
   cases e.take fr ls with
   | none=>rfl
   | some p=>exact ia fun x hx=>h x (List.mem_cons_of_mem _ hx)
noncomputable def hV:Ew→List Str
 | .mu l _ _ _ _=>[l]
 | .my l _ _=>[l]
 | .bn l _ _ _=>[l]
 | .pw l _ _ _=>[l]
 | .pt n _=>[n]
 | _=>[]
noncomputable def vg (evs:List Ew):List Str:=evs.flatMap hV
noncomputable def dp (d:Nat):Ew→Option Nat
 | .pt _ _=>if d < 6 then some (d + 1) else none
 | .dn=>if 0 < d then some (d - 1) else none
 | _=>some d
noncomputable def aX:Nat→List Ew→Option Nat
 | d,[]=>some d
 | d,e :: r=>(dp d e).bind fun d'=>aX d' r
theorem Qo {d d':Nat} {e:Ew} {fr:List Fr} {ls:List Str} (hd:dp d e=some d') (hf:fr.length=d + 1) (h6:d≤6) (hl:∀x∈hV e,x∉ls):∃fr',e.take fr ls=some (fr',ls ++ hV e)∧fr'.length=d' + 1∧d'≤6:=by
 cases e with
 | lt a b=>
  cases hd
  exact⟨push fr (.lt a b),by simp [Ew.take,hV],by rw[fe];exact hf,h6⟩
 | mu l w a n r=>
  cases hd
  exact⟨_,by rw[Ew.take,if_neg (hl l (by simp [hV]))];rfl,by rw[fe];exact hf,h6⟩
 | my l w a=>
  cases hd
  exact⟨_,by rw[Ew.take,if_neg (hl l (by simp [hV]))];rfl,by rw[fe];exact hf,h6⟩
 | bn l w a r=>
  cases hd
  exact⟨_,by rw[Ew.take,if_neg (hl l (by simp [hV]))];rfl,by rw[fe];exact hf,h6⟩
 | pw l w a r=>
  cases hd
  exact⟨_,by rw[Ew.take,if_neg (hl l (by simp [hV]))];rfl,by rw[fe];exact hf,h6⟩
 | pt n rs=>
  simp only[dp] at hd
  split at hd
  ·cases hd
   exact⟨_,by rw[Ew.take,if_neg (fun z=>z.elim (fun z=>by omega) (hl n (by simp [hV])))];rfl,by simp only[List.length_cons];omega,by omega⟩
  ·cases hd
 | dn=>
  simp only[dp] at hd
  split at hd
  ·cases hd
   match fr,hf with
   | [f],hf=>simp only[List.length_cons,List.length_nil] at hf;omega
   | (n,rs,rows) :: (n2,rs2,rows2) :: fr',hf=>
    exact⟨(n2,rs2,rows2 ++ [.pt n rs rows]) :: fr',by simp [Ew.take,hV],by simp only[List.length_cons] at hf ⊢;omega,by omega⟩
  ·cases hd
theorem Kk:∀{evs:List Ew} {i d d':Nat} {fr:List Fr} {ls:List Str},aX d evs=some d'→fr.length=d + 1→d≤6→(ls ++ vg evs).Nodup→i + evs.length≤90→∃fr',Zb i evs fr ls=.ok fr'∧fr'.length=d' + 1
 | [],i,d,d',fr,ls,h,hf,_,_,_=>by cases h;exact⟨fr,rfl,hf⟩
 | e :: r,i,d,d',fr,ls,h,hf,h6,hn,hi=>by
  rw[aX] at h
  cases hd:dp d e with
  | none=>rw[hd] at h;cases h
  | some d1=>
   rw[hd,Option.bind_some] at h
   have hn':((ls ++ hV e) ++ vg r).Nodup:=by
    have:vg (e :: r)=hV e ++ vg r:=by simp [vg]
    rw[this,←List.append_assoc] at hn
    exact hn
   have hl:∀x∈hV e,x∉ls:=fun x hx hs=>by
    have:=(List.nodup_append.mp hn').1
    exact(List.nodup_append.mp this).2.2 x hs x hx rfl
   obtain⟨fr1,e1,l1,s1⟩:=Qo hd hf h6 hl
   simp only[List.length_cons] at hi
   rw[Zb,if_neg (by omega),e1]
   exact Kk h l1 s1 hn' (by omega)
section
variable {P:Program} {w:World} {K:PySem.W.Frag} {mg:Str→Option Value} {base:Heap} {t:jt}
end
noncomputable def NN (c:Int):List Str:=(List.range 104).map fun (k:Nat)=>cE c k
theorem nB (c:Int):(NN c).length=104:=by unfold NN;rw[List.length_map,List.length_range]
theorem nH (c:Int) {i:Nat} (h:i < 104):(NN c).getD i "" = cE c i:=by
 unfold NN
 rw[List.getD_eq_getElem?_getD,List.getElem?_map,List.getElem?_range h]
 rfl
noncomputable def pG (H:Hp) (v:V):Ew→Prop
 | .lt a b=>∃p,v=.ref p∧H p=some (.tup [.str "let",.str a,.str b])
 | .mu l w a n r=>∃p,v=.ref p∧H p=some (.tup [.str "must",.str l,.str w,.str a,.int n,.str r])
 | .my l w a=>∃p,v=.ref p∧H p=some (.tup [.str "may",.str l,.str w,.str a])
 | .bn l w a r=>∃p,v=.ref p∧H p=some (.tup [.str "ban",.str l,.str w,.str a,.str r])
 | .pw l w a r=>∃p,v=.ref p∧H p=some (.tup [.str "power",.str l,.str w,.str a,.str r])
 | .pt n rs=>∃p q,v=.ref p∧H p=some (.tup [.str "part",.str n,.ref q])∧H q=some (.lst (rs.map V.str))
 | .dn=>∃p,v=.ref p∧H p=some (.tup [.str "done"])
theorem pG.same {H H':Hp} {v:V} {e:Ew} (h:pG H v e) (s:qk H H'):pG H' v e:=by
 cases e with
 | pt n rs=>obtain⟨p,q,e,h1,h2⟩:=h;exact⟨p,q,e,s _ _ h1,s _ _ h2⟩
 | lt a b=>obtain⟨p,e,h⟩:=h;exact⟨p,e,s _ _ h⟩
 | mu l w a n r=>obtain⟨p,e,h⟩:=h;exact⟨p,e,s _ _ h⟩
 | my l w a=>obtain⟨p,e,h⟩:=h;exact⟨p,e,s _ _ h⟩
 | bn l w a r=>obtain⟨p,e,h⟩:=h;exact⟨p,e,s _ _ h⟩
 | pw l w a r=>obtain⟨p,e,h⟩:=h;exact⟨p,e,s _ _ h⟩
 | dn=>obtain⟨p,e,h⟩:=h;exact⟨p,e,s _ _ h⟩
noncomputable def JP (l:Addr) (H:Hp) (v:V):Ew→Prop
 | .pt n rs=>∃p q,v=.ref p∧H p=some (.tup [.str "part",.str n,.ref q])∧H q=some (.lst (rs.map V.str))∧q≠l
 | e=>pG H v e
theorem JP.ev {l:Addr} {H:Hp} {v:V} {e:Ew} (h:JP l H v e):pG H v e:=by
 cases e with
 | pt n rs=>obtain⟨p,q,e,h1,h2,_⟩:=h;exact⟨p,q,e,h1,h2⟩
 | _=>exact h
theorem JP.same {l:Addr} {H H':Hp} {v:V} {e:Ew} (h:JP l H v e) (s:qk H H'):JP l H' v e:=by
 cases e with
 | pt n rs=>obtain⟨p,q,e,h1,h2,h3⟩:=h;exact⟨p,q,e,s _ _ h1,s _ _ h2,h3⟩
 | lt a b=>obtain⟨p,e,h⟩:=h;exact⟨p,e,s _ _ h⟩
 | mu l w a n r=>obtain⟨p,e,h⟩:=h;exact⟨p,e,s _ _ h⟩
 | my l w a=>obtain⟨p,e,h⟩:=h;exact⟨p,e,s _ _ h⟩
 | bn l w a r=>obtain⟨p,e,h⟩:=h;exact⟨p,e,s _ _ h⟩
 | pw l w a r=>obtain⟨p,e,h⟩:=h;exact⟨p,e,s _ _ h⟩
 | dn=>obtain⟨p,e,h⟩:=h;exact⟨p,e,s _ _ h⟩
theorem JP.keeps {l:Addr} {H H':Hp} {v:V} {e:Ew} {xs:List V} (h:JP l H v e) (k:Keeps l H H') (el:H l=some (.lst xs)):JP l H' v e:=by
 have ne:∀{p:Addr} {ys:List V},H p=some (.tup ys)→H' p=some (.tup ys):=fun q=>k.look q (yV q el (by intro z;cases z))
 cases e with
 | pt n rs=>obtain⟨p,q,e,h1,h2,h3⟩:=h;exact⟨p,q,e,ne h1,k.look h2 h3,h3⟩
 | lt a b=>obtain⟨p,e,h⟩:=h;exact⟨p,e,ne h⟩
 | mu l w a n r=>obtain⟨p,e,h⟩:=h;exact⟨p,e,ne h⟩
 | my l w a=>obtain⟨p,e,h⟩:=h;exact⟨p,e,ne h⟩
 | bn l w a r=>obtain⟨p,e,h⟩:=h;exact⟨p,e,ne h⟩
 | pw l w a r=>obtain⟨p,e,h⟩:=h;exact⟨p,e,ne h⟩
 | dn=>obtain⟨p,e,h⟩:=h;exact⟨p,e,ne h⟩
noncomputable def He (lb:Str) (d:Nat) (e:Ew):Prop:=e.ok∧(hV e=[]∨hV e=[lb])∧(dp d e).isSome=true
noncomputable def Qm (K:PySem.W.Frag):Sp:=fun vs H Q _=>∃(a:Addr) (c cell:Int) (lb:Str) (d:Nat),vs=[.ref a,.int cell,.str lb,.int d]∧qD K H a ((NN c).map V.str)∧0≤cell∧qK lb=true∧∀v e H',qk H H'→(∀l,H l≠none→JP l H' v e)→He lb d e→Q v H'
theorem Qn:∀{ys:List V},(∀v∈ys,∃x,v=V.str x∧qK x=true)→∃xs:List Str,ys=xs.map V.str∧∀x∈xs,qK x=true
 | [],_=>⟨[],rfl,fun _ z=>(by cases z)⟩
 | y :: ys,h=>by
  obtain⟨x,rfl,hx⟩:=h y List.mem_cons_self
  obtain⟨xs,rfl,hs⟩:=Qn fun v hv=>h v (List.mem_cons_of_mem _ hv)
  exact⟨x :: xs,rfl,fun z hz=>(List.mem_cons.mp hz).elim (fun e=>by rw[e];exact hx) (hs z)⟩
theorem Zi {ys:List V} (hl:ys.length=3) (h:∀(i:Nat) (v:V),i < 3→ys[i]?=some v→∃x,v=V.str x∧qK x=true):∃x0 x1 x2,ys=[x0,x1,x2].map V.str∧qK x0=true∧qK x1=true∧qK x2=true:=by
 match ys,hl with
 | [a,b,c],_=>
  obtain⟨x0,rfl,h0⟩:=h 0 a (by decide) rfl
  obtain⟨x1,rfl,h1⟩:=h 1 b (by decide) rfl
  obtain⟨x2,rfl,h2⟩:=h 2 c (by decide) rfl
  exact⟨x0,x1,x2,rfl,h0,h1,h2⟩
section
variable {P:Program} {w:World} {K:PySem.W.Frag} {mg:Str→Option Value} {base:Heap} {t:jt}
theorem kO:qo ["_law_names","_law_cell","_law_label","_law_depth","_law_what","_law_some","_law_who","_law_number","_law_many"] ["_law_names","_law_cell","_law_label","_law_depth"] (z4 xI):=⟨rfl,rfl,rfl,by decide +kernel,rfl,by decide +kernel,by decide +kernel⟩
set_option maxHeartbeats 400000 in
theorem Zz (T:Txt K mg t):qi P w K mg base jk 2 t.fT t.fL ["_law_names","_law_cell","_law_label","_law_depth"] (Qm K):=by
 have G_w_mix:qi P w K mg base jk 1 t.bP t.bK ["_law_cell","_law_k"] aq:=(cf T).mono (by decide)
 refine T.cP.fn.ok kO (fun vs H Q E h=>(by obtain⟨_,_,_,_,_,rfl,_⟩:=h;rfl)) (fun cdv A outer s H vs Q E hr h=>?_)
 obtain⟨a,c,cell,lb,d,rfl,hA,hc,hlb,k⟩:=h
 refine⟨_,(z6 (qZ (i:=4) kO.nd rfl (Or.inl rfl) (qg jw (pv 1) z7))
   (z6 (cZ (i:=5) (osc:=z4 xI) (N:=["_law_names","_law_cell","_law_label","_law_depth","_law_what","_law_some","_law_who","_law_number","_law_many"]) (names:=["_law_names","_law_cell"]) (qN:=[0,1]) rfl rfl rfl kO.nd ⟨rfl,by decide +kernel,by decide +kernel,by decide +kernel,rfl,rfl,by decide +kernel,by decide +kernel⟩ rfl rfl (yS rfl T.gs (z0 z7 z5)) (fun _ _ _=>(qy (qf (K:=K) rfl) (pv 1) (qg jw (qm G_w_mix hr rfl T.xg.mg T.xg.fn.kp T.xg.bd .nil qQ (z0 (pv 2) (z0 (pv 0) z5))) z7) (fun _ _=>rfl))))
   (z6 (qZ (i:=6) kO.nd rfl (Or.inl rfl) (qy (qf (K:=K) rfl) (pv 5) z7 (fun _ _=>rfl)))
   (z6 (PS.join (qP (ql jd (qg jw (qm G_w_mix hr rfl T.xg.mg T.xg.fn.kp T.xg.bd .nil qQ (z0 (pv 1) (z0 z7 z5))) z7) z7 (qe _))
    (z8 (qZ (i:=6) kO.nd rfl (Or.inl rfl) qq)) qr))
   (z6 (qZ (i:=7) kO.nd rfl (Or.inl rfl) (qg ka z7 (qg jw (qm G_w_mix hr rfl T.xg.mg T.xg.fn.kp T.xg.bd .nil qQ (z0 (pv 1) (z0 z7 z5))) z7)))
   (z6 (PS.join (qP (ql jd (qg jw (qm G_w_mix hr rfl T.xg.mg T.xg.fn.kp T.xg.bd .nil qQ (z0 (pv 1) (z0 z7 z5))) z7) z7 (qe _))
    (z8 (qZ (i:=7) kO.nd rfl (Or.inl rfl) (qg ka z7 (qg jw (qg lB (pv 1) z7) (qg c8 (qg Yv z7 z7) z7))))) qr))
   (z6 (PS.join (qP (PW.pt (oW (PW.pt (gp (ql jd (pv 4) z7 (qe _)) (wC (ql jd (pv 4) z7 (qe _))))) (rg (ql nj (pv 3) z7 (qe _)))))
    (z6 (qZ (i:=8) kO.nd rfl (Or.inl rfl) (qg jw (qm G_w_mix hr rfl T.xg.mg T.xg.fn.kp T.xg.bd .nil qQ (z0 (pv 1) (z0 z7 z5))) z7))
   (z8 (qw (xm (z0 qq (z0 (pv 2) (z0 (cm (osc:=z4 xI) (N:=["_law_names","_law_cell","_law_label","_law_depth","_law_what","_law_some","_law_who","_law_number","_law_many"]) (names:=["_law_names","_law_cell"]) (qN:=[0,1]) rfl rfl rfl ⟨rfl,by decide +kernel,by decide +kernel,by decide +kernel,rfl,rfl,by decide +kernel,by decide +kernel⟩ (yS rfl T.gs (z0 (pv 8) z5)) (fun _ _ _=>(qy (qf (K:=K) rfl) (pv 1) (qg jw (qm G_w_mix hr rfl T.xg.mg T.xg.fn.kp T.xg.bd .nil qQ (z0 (pv 2) (z0 (qg ka z7 (pv 0)) z5))) z7) (fun _ _=>rfl)))) z5))))))) qr))
   (z6 (PS.join (qP (PW.pt (oW (ql jd (pv 4) z7 (qe _)) (rg (ql en (pv 3) z7 (qe _)))))
    (z8 (qw (xm (z0 qq z5)))) qr))
   (z6 (qP (ql nj (pv 4) z7 (qe _))
    (z8 (qw (xm (z0 qq (z0 (qy (qf (K:=K) rfl) (pv 5) z7 (fun _ _=>rfl)) (z0 (qy (qf (K:=K) rfl) (pv 5) z7 (fun _ _=>rfl)) z5)))))) qr)
   (z6 (qP (ql nj (pv 4) z7 (qe _))
    (z8 (qw (xm (z0 qq (z0 (pv 2) (z0 (qy (qf (K:=K) rfl) (pv 5) z7 (fun _ _=>rfl)) (z0 (qy (qf (K:=K) rfl) (pv 5) z7 (fun _ _=>rfl)) (z0 (pv 7) (z0 (qy (qf (K:=K) rfl) (pv 5) z7 (fun _ _=>rfl)) z5))))))))) qr)
   (z6 (qP (ql jd (pv 4) z7 (qe _))
    (z8 (qw (xm (z0 qq (z0 (pv 2) (z0 (pv 6) (z0 (qy (qf (K:=K) rfl) (pv 5) z7 (fun _ _=>rfl)) z5))))))) qr)
   (z6 (qP (ql jd (pv 4) z7 (qe _))
    (z8 (qw (xm (z0 qq (z0 (pv 2) (z0 (pv 6) (z0 (qy (qf (K:=K) rfl) (pv 5) z7 (fun _ _=>rfl)) (z0 (qy (qf (K:=K) rfl) (pv 5) z7 (fun _ _=>rfl)) z5)))))))) qr)
   (z8 (qw (xm (z0 qq (z0 (pv 2) (z0 (pv 6) (z0 (qy (qf (K:=K) rfl) (pv 5) z7 (fun _ _=>rfl)) (z0 (qy (qf (K:=K) rfl) (pv 5) z7 (fun _ _=>rfl)) z5)))))))))))))))))))),?_⟩
 have hN:=nB c
 have w0:0≤cell % 9:=Int.emod_nonneg _ (by decide)
 have w1:cell % 9 < 9:=Int.emod_lt_of_pos _ (by decide)
 walk_at "rd"
 refine gA dj (fun _ _ v=>∃x,v=V.str x∧qK x=true) (qj (by decide +kernel)) ?_ ?_
 ·intro i y H' Q' hy s' kk
  have hi:i < 3:=by
   have:=(List.getElem?_eq_some_iff.mp hy).1
   simpa using this
  have hy':y=V.int (0 + (i:Int)):=by
   rw[List.getElem?_map,List.getElem?_range (show i < (3:Int).toNat from hi)] at hy
   exact(Option.some.inj hy).symm
  subst hy'
  have x0:0≤gu cell (0 + (i:Int)) % 40:=Int.emod_nonneg _ (by decide)
  have x1:gu cell (0 + (i:Int)) % 40 < 40:=Int.emod_lt_of_pos _ (by decide)
  have hA':=s'.seq hA
  walk_at "rd"
  exact kk _ _ (qk.refl _) ⟨_,rfl,by rw[nH c (by omega)];exact tN c⟩
 intro l5 H1 ys s1 hl5 e1 hlen hp
 obtain⟨x0,x1,x2,rfl,g0,g1,g2⟩:=Zi (by simpa using hlen) fun i v hi hv=>hp i (V.int (0 + (i:Int))) v (by rw[List.getElem?_map,List.getElem?_range (show i < (3:Int).toNat from hi)];rfl) hv
 clear hp hlen
 have hA1:=s1.seq hA
 have ex0:sG ([x0,x1,x2].map V.str) 0=some (.str x0):=rfl
 have ex1:sG ([x0,x1,x2].map V.str) 1=some (.str x1):=rfl
 have ex2:sG ([x0,x1,x2].map V.str) 2=some (.str x2):=rfl
 have hX:qD K H1 l5 ([x0,x1,x2].map V.str):=qD.of e1
 refine⟨_,rfl,l5,_,_,_,rfl,rfl,hX,ex0,?_⟩
 refine⟨fun σ' H'=>(∃u,σ'=[some (.ref a),some (.int cell),some (.str lb),some (.int d),some (.int (cell % 9)),some (.ref l5),some (.str u),none,none]∧af u∧H'=H1)∨False,?_,?_⟩
 ·walk_at "rd"
  refine jH (fun _=>?_) (fun _=>.inl ⟨_,rfl,.inl g0,rfl⟩)
  walk_at "rd"
  exact .inl ⟨_,rfl,.inr rfl,rfl⟩
 rintro σ' H2 (⟨u,rfl,hu,rfl⟩ | ⟨⟨⟩⟩)
 walk_at "rd"
 refine⟨fun σ' H'=>(∃n,σ'=[some (.ref a),some (.int cell),some (.str lb),some (.int d),some (.int (cell % 9)),some (.ref l5),some (.str u),some (.int n),none]∧1≤n∧n < 10 ^ 20∧H'=H2)∨False,?_,?_⟩
 ·walk_at "rd"
  refine jH (fun _=>?_) (fun _=>.inl ⟨_,rfl,?_,?_,rfl⟩)
  ·walk_at "rd"
   have e20:(10:Int) ^ (Int.toNat 20) - 1=99999999999999999999:=by decide +kernel
   have p0:=Int.emod_nonneg (cell * 48271) (show (99999999999999999999:Int)≠0 by decide)
   have p1:=Int.emod_lt_of_pos (cell * 48271) (show (0:Int) < 99999999999999999999 by decide)
   refine .inl ⟨_,rfl,?_,?_,rfl⟩
   ·show 1≤1 + cell * 48271 % (10 ^ (Int.toNat 20) - 1)
    rw[e20];omega
   ·show 1 + cell * 48271 % (10 ^ (Int.toNat 20) - 1) < 10 ^ 20
    rw[e20];omega
  ·show 1≤1 + gu cell 4 % 5
   omega
  ·show 1 + gu cell 4 % 5 < 10 ^ 20
   omega
 rintro σ' H3 (⟨n,rfl,n1,n2,rfl⟩ | ⟨⟨⟩⟩)
 refine⟨fun σ' H'=>(σ'=[some (.ref a),some (.int cell),some (.str lb),some (.int d),some (.int (cell % 9)),some (.ref l5),some (.str u),some (.int n),none]∧H'=H3)∨False,?_,?_⟩
 ·walk_at "rd"
  refine jH (fun _=>mE ?pa) (fun _=>?pb)
  case' pb=>
   walk_at "rd"
   refine jH (fun _=>?_) (fun _=>pI (.inl ⟨rfl,rfl⟩))
  all_goals
   walk_at "rd"
   refine jH (fun hd=>?_) (fun _=>.inl ⟨rfl,rfl⟩)
   have hd':(d:Int) < 6:=of_decide_eq_true hd
   have m0:0≤gu cell 6 % 13:=Int.emod_nonneg _ (by decide)
   have m1:gu cell 6 % 13 < 13:=Int.emod_lt_of_pos _ (by decide)
   walk_at "rd"
   generalize (gu cell 6 % 13)=m at *
   refine gA dj (fun _ _ v=>∃x,v=V.str x∧qK x=true) (qj (by rw[List.length_map,List.length_range];omega)) ?_ ?_
   ·intro i y H' Q' hy s' kk
    have hi:i < m.toNat:=by
     have:=(List.getElem?_eq_some_iff.mp hy).1
     simpa using this
    have hy':y=V.int (0 + (i:Int)):=by
     rw[List.getElem?_map,List.getElem?_range hi] at hy
     exact(Option.some.inj hy).symm
    subst hy'
    have x0:0≤gu cell (7 + (0 + (i:Int))) % 40:=Int.emod_nonneg _ (by decide)
    have x1:gu cell (7 + (0 + (i:Int))) % 40 < 40:=Int.emod_lt_of_pos _ (by decide)
    have hA':=s'.seq hA1
    walk_at "rd"
    exact kk _ _ (qk.refl _) ⟨_,rfl,by rw[nH c (by omega)];exact tN c⟩
   intro l6 H4 ys s4 hl6 e4 hlen hp
   obtain⟨xs,rfl,hxs⟩:=Qn (ys:=ys) fun v hv=>by
    obtain⟨i,hi⟩:=List.mem_iff_getElem?.mp hv
    have hi':i < m.toNat:=by
     have:=(List.getElem?_eq_some_iff.mp hi).1
     rw[hlen] at this
     simpa using this
    exact hp i (V.int (0 + (i:Int))) v (by rw[List.getElem?_map,List.getElem?_range hi'];rfl) hi
   have hl':xs.length≤12:=by
    rw[List.length_map,List.length_map,List.length_range] at hlen
    omega
   walk_at "rd"
   intro q H6 s6 hq e6
   exact k (.ref q) (.pt lb xs) H6 ((s1.trans s4).trans s6) (fun l hl=>⟨q,l6,rfl,e6,s6 _ _ e4,fun z=>hl (by rw[←z];exact s1.free hl6)⟩) ⟨⟨hlb,hxs,hl'⟩,.inr rfl,by simp only[dp];rw[if_pos (by omega)];rfl⟩
 rintro σ' H4 (⟨rfl,rfl⟩ | ⟨⟨⟩⟩)
 refine⟨fun σ' H'=>(σ'=[some (.ref a),some (.int cell),some (.str lb),some (.int d),some (.int (cell % 9)),some (.ref l5),some (.str u),some (.int n),none]∧H'=H4)∨False,?_,?_⟩
 ·walk_at "rd"
  refine jH (fun _=>?_) (fun _=>pI (.inl ⟨rfl,rfl⟩))
  walk_at "rd"
  refine jH (fun hd=>?_) (fun _=>.inl ⟨rfl,rfl⟩)
  have hd':0 < (d:Int):=of_decide_eq_true hd
  walk_at "rd"
  intro q H6 s6 hq e6
  exact k (.ref q) .dn H6 (s1.trans s6) (fun _ _=>⟨q,rfl,e6⟩) ⟨True.intro,.inl rfl,by simp only[dp];rw[if_pos (by omega)];rfl⟩
 rintro σ' H5 (⟨rfl,rfl⟩ | ⟨⟨⟩⟩)
 walk_at "rd"
 refine jH (fun _=>?_) (fun _=>?_)
 ·walk_at "rd"
  intro q H6 s6 hq e6
  exact k (.ref q) (.lt x0 x1) H6 (s1.trans s6) (fun _ _=>⟨q,rfl,e6⟩) ⟨⟨g0,g1⟩,.inl rfl,rfl⟩
 walk_at "rd"
 refine jH (fun _=>?_) (fun _=>?_)
 ·walk_at "rd"
  intro q H6 s6 hq e6
  exact k (.ref q) (.mu lb x0 x1 n x2) H6 (s1.trans s6) (fun _ _=>⟨q,rfl,e6⟩) ⟨⟨hlb,g0,g1,n1,n2,g2⟩,.inr rfl,rfl⟩
 walk_at "rd"
 refine jH (fun _=>?_) (fun _=>?_)
 ·walk_at "rd"
  intro q H6 s6 hq e6
  exact k (.ref q) (.my lb u x1) H6 (s1.trans s6) (fun _ _=>⟨q,rfl,e6⟩) ⟨⟨hlb,hu,g1⟩,.inr rfl,rfl⟩
 walk_at "rd"
 refine jH (fun _=>?_) (fun _=>?_)
 ·walk_at "rd"
  intro q H6 s6 hq e6
  exact k (.ref q) (.bn lb u x1 x2) H6 (s1.trans s6) (fun _ _=>⟨q,rfl,e6⟩) ⟨⟨hlb,hu,g1,g2⟩,.inr rfl,rfl⟩
 walk_at "rd"
 intro q H6 s6 hq e6
 exact k (.ref q) (.pw lb u x1 x2) H6 (s1.trans s6) (fun _ _=>⟨q,rfl,e6⟩) ⟨⟨hlb,hu,g1,g2⟩,.inr rfl,rfl⟩
end
structure ai (evs:List Ew):Prop where
 ok:∀e∈evs,e.ok
 dp:aX 0 evs=some 0
 nd:(vg evs).Nodup
 len:evs.length≤66
theorem nO:∀{e1 e2:List Ew} {d:Nat},aX d (e1 ++ e2)=(aX d e1).bind fun d'=>aX d' e2
 | [],_,_=>rfl
 | e :: r,e2,d=>by
  rw[List.cons_append,aX,aX]
  cases dp d e with
  | none=>rfl
  | some d'=>exact nO (e1:=r)
theorem Gv {d d':Nat} {e:Ew} (h:dp d e=some d') (h6:d≤6):d'≤6:=by
 cases e with
 | pt n rs=>
  simp only[dp] at h
  split at h
  ·cases h;omega
  ·cases h
 | dn=>
  simp only[dp] at h
  split at h
  ·cases h;omega
  ·cases h
 | _=>cases h;exact h6
theorem J4:∀(d:Nat),aX d (List.replicate d Ew.dn)=some 0
 | 0=>rfl
 | d + 1=>by
  rw[List.replicate_succ,aX,dp,if_pos (by omega)]
  exact J4 d
theorem tD (e1 e2:List Ew):vg (e1 ++ e2)=vg e1 ++ vg e2:=by unfold vg;rw[List.flatMap_append]
theorem iS:∀(d:Nat),vg (List.replicate d Ew.dn)=[]
 | 0=>rfl
 | d + 1=>by
  rw[List.replicate_succ]
  show hV Ew.dn ++ vg (List.replicate d Ew.dn)=[]
  rw[iS d];rfl
theorem Paired.app {α β:Type} {F:α→β→Prop}:∀{a a':List α} {b b':List β},Paired F a b→Paired F a' b'→Paired F (a ++ a') (b ++ b')
 | [],_,[],_,_,h=>h
 | _ :: _,_,_ :: _,_,.cons h t,q=>.cons h (Paired.app t q)
theorem lP {α β:Type} {F:α→β→Prop} {a:α} {b:β} (h:F a b):∀n,Paired F (List.replicate n a) (List.replicate n b)
 | 0=>.nil
 | n + 1=>.cons h (lP h n)
noncomputable def kw:Ew→Str
 | .lt _ _=>"let"
 | .mu _ _ _ _ _=>"must"
 | .my _ _ _=>"may"
 | .bn _ _ _ _=>"ban"
 | .pw _ _ _ _=>"power"
 | .pt _ _=>"part"
 | .dn=>"done"
theorem pG.first {H:Hp} {v:V} {e:Ew} (h:pG H v e):∃p xs,v=.ref p∧H p=some (.tup xs)∧sG xs 0=some (.str (kw e)):=by
 cases e with
 | pt n rs=>obtain⟨p,q,e,h1,h2⟩:=h;exact⟨p,_,e,h1,rfl⟩
 | lt a b=>obtain⟨p,e,h⟩:=h;exact⟨p,_,e,h,rfl⟩
 | mu l w a n r=>obtain⟨p,e,h⟩:=h;exact⟨p,_,e,h,rfl⟩
 | my l w a=>obtain⟨p,e,h⟩:=h;exact⟨p,_,e,h,rfl⟩
 | bn l w a r=>obtain⟨p,e,h⟩:=h;exact⟨p,_,e,h,rfl⟩
 | pw l w a r=>obtain⟨p,e,h⟩:=h;exact⟨p,_,e,h,rfl⟩
 | dn=>obtain⟨p,e,h⟩:=h;exact⟨p,_,e,h,rfl⟩
noncomputable def Fw (b:Bool):Int:=if b=true then 1 else 0
theorem Gm {d d':Nat} {e:Ew} (h:dp d e=some d'):(d:Int) + (if decide (V.str (kw e)=V.str (Str.ofString "part"))=true then (1:Int) else 0) - (if decide (V.str (kw e)=V.str (Str.ofString "done"))=true then (1:Int) else 0)=(d':Nat):=by
 have k1:∀x∈(["let","must","may","ban","power"]:List Str),¬x = "part"∧¬x = "done":=by decide +kernel
 have k2:¬("part" : Str) = "done":=by decide +kernel
 have none:∀{x:Str},x∈(["let","must","may","ban","power"]:List Str)→(d:Int) + (if decide (V.str x=V.str (Str.ofString "part"))=true then (1:Int) else 0) - (if decide (V.str x=V.str (Str.ofString "done"))=true then (1:Int) else 0)=d:=fun {x} hx=>by
  have h1:¬V.str x=V.str (Str.ofString "part"):=fun z=>(k1 x hx).1 (V.str.inj z)
  have h2:¬V.str x=V.str (Str.ofString "done"):=fun z=>(k1 x hx).2 (V.str.inj z)
  rw[decide_eq_false h1,decide_eq_false h2];simp
 cases e with
 | pt n rs=>
  simp only[dp] at h
  split at h
  ·cases h
   have h2:¬V.str (kw (.pt n rs))=V.str (Str.ofString "done"):=fun z=>k2 (V.str.inj z)
   rw[decide_eq_false h2,decide_eq_true (show V.str (kw (.pt n rs))=V.str (Str.ofString "part") from rfl)]
   simp
  ·cases h
 | dn=>
  simp only[dp] at h
  split at h
  ·cases h
   have h2:¬V.str (kw .dn)=V.str (Str.ofString "part"):=fun z=>k2 (V.str.inj z).symm
   rw[decide_eq_false h2,decide_eq_true (show V.str (kw .dn)=V.str (Str.ofString "done") from rfl)]
   simp;omega
  ·cases h
 | lt a b=>cases h;exact none (by simp [kw])
 | mu l w a n r=>cases h;exact none (by simp [kw])
 | my l w a=>cases h;exact none (by simp [kw])
 | bn l w a r=>cases h;exact none (by simp [kw])
 | pw l w a r=>cases h;exact none (by simp [kw])
theorem oY {α:Type} (x:α):∀n:Nat,(List.replicate n [x]).flatten=List.replicate n x
 | 0=>rfl
 | n + 1=>by rw[List.replicate_succ,List.flatten_cons,oY x n];rfl
theorem i5 {c:Int} {I:List Nat} (h:I.Nodup) (hb:∀i∈I,i < 208):(I.map fun (i:Nat)=>cE c (i:Int)).Nodup:=by
 induction I with
 | nil=>simp
 | cons a r ih=>
  rw[List.nodup_cons] at h
  (rw[List.map_cons,List.nodup_cons])
  refine⟨fun hm=>?_,ih h.2 fun i hi=>hb i (List.mem_cons_of_mem _ hi)⟩
  obtain⟨b,hbm,e⟩:=List.mem_map.mp hm
  have ha:=hb a List.mem_cons_self
  have hb':=hb b (List.mem_cons_of_mem _ hbm)
  have:=W7 (c:=c) (k1:=b) (k2:=a) (by omega) (by omega) e
  exact h.1 (by rw[show a=b by omega];exact hbm)
noncomputable def az (K:PySem.W.Frag):Sp:=fun vs H Q _=>∃(a b:Addr) (c:Int) (ns:List Int),vs=[.ref a,.ref b]∧qD K H a ((NN c).map V.str)∧qD K H b (ns.map V.int)∧ns.length≤70∧∀l H' ws evs,qk H H'→H l=none→H' l=some (.lst ws)→Paired (pG H') ws evs→ai evs→Q (.ref l) H'
section
variable {P:Program} {w:World} {K:PySem.W.Frag} {mg:Str→Option Value} {base:Heap} {t:jt}
theorem kI:qo ["_law_names","_law_script","_law_base","_law_events_here","_law_depth","_law_number","_law_event_here"] ["_law_names","_law_script"] (z4 kh):=⟨rfl,rfl,rfl,by decide +kernel,rfl,by decide +kernel,by decide +kernel⟩
set_option maxHeartbeats 400000 in
theorem ez (T:Txt K mg t):qi P w K mg base jk 3 t.bH t.bJ ["_law_names","_law_script"] (az K):=by
 have G_w_cell_at:qi P w K mg base jk 2 t.ym t.yp ["_law_script","_law_k"] (Zc K):=(cb T).mono (by decide)
 have G_w_event:qi P w K mg base jk 2 t.fT t.fL ["_law_names","_law_cell","_law_label","_law_depth"] (Qm K):=(Zz T).mono (by decide)
 refine T.yt.fn.ok kI (fun vs H Q E h=>(by obtain⟨_,_,_,_,rfl,_⟩:=h;rfl)) (fun cdv A outer s H vs Q E hr h=>?_)
 obtain⟨a,b,c,ns,rfl,hA,hS,hl,k⟩:=h
 refine⟨_,(z6 (qZ (i:=2) kI.nd rfl (Or.inl rfl) (qg lB (qg jw (qm G_w_cell_at hr rfl T.j5.mg T.j5.fn.kp T.j5.bd .nil qQ (z0 (pv 1) (z0 z7 z5))) z7) z7))
   (z6 (qZ (i:=3) kI.nd rfl (Or.inl rfl) (qF z5) vQ)
   (z6 (qZ (i:=4) kI.nd rfl (Or.inl rfl) z7)
   (z6 (yJ PassesOwn.never rfl (yS rfl T.gs (z0 (qC (jG (K:=K) rfl) rfl T.vY PySem.boot_len (z0 (kT (kL (K:=K) rfl) (pv 1) (xi z7) (xi z7)) z5)) z5)) (jC (i:=5) kI.nd rfl (Or.inl rfl))
    (z6 (qZ (i:=6) kI.nd rfl (Or.inl rfl) (qm G_w_event hr rfl T.cP.mg T.cP.fn.kp T.cP.bd .nil qQ (z0 (pv 0) (z0 (qm G_w_cell_at hr rfl T.j5.mg T.j5.fn.kp T.j5.bd .nil qQ (z0 (pv 1) (z0 (qg ka z7 (pv 5)) z5))) (z0 (qy (qf (K:=K) rfl) (pv 0) (qg ka (pv 2) (pv 5)) (fun _ _=>rfl)) (z0 (pv 4) z5))))))
   (z6 (qZ (i:=4) kI.nd rfl (Or.inl rfl) (qg c8 (qg ka (pv 4) (jn fU rfl T.rK PyProof.Rows.boot_int (z0 (va jd (qy (qu (K:=K) rfl) (pv 6) z7 (fun _ _=>rfl)) qq (qe _)) z5))) (jn fU rfl T.rK PyProof.Rows.boot_int (z0 (va jd (qy (qu (K:=K) rfl) (pv 6) z7 (fun _ _=>rfl)) qq (qe _)) z5))))
   (z8 (q0 (ji PySem.F.plainAttrs_list PySem.F.slot_list_append PySem.F.type_list_append jv (pv 3) (z0 (pv 6) z5)))))))
   (z8 (qw (qg wD (pv 3) (qg XD (qF (z0 (xm (z0 qq z5)) z5)) (pv 4))))))))),?_⟩
 have hN:=nB c
 refine⟨_,rfl,b,2,ns,rfl,hS,by decide,?_⟩
 have b0:0≤yE ns 2 % 2:=Int.emod_nonneg _ (by decide)
 have b1:yE ns 2 % 2 < 2:=Int.emod_lt_of_pos _ (by decide)
 obtain⟨bs,ebs,hbs⟩:∃bs:Nat,yE ns 2 % 2 * 22=bs∧bs≤22:=⟨(yE ns 2 % 2 * 22).toNat,by omega,by omega⟩
 walk_at "rd"
 intro le H1 s1 hle e1
 walk_at "rd"
 intro l2 H2 s2 hl2 e2
 refine⟨l2,_,rfl,.inl (qD.of e2),?_⟩
 have hcl:(g6 (ns.map V.int) (some 3) (some 63)).length≤60:=by
  show (g6 (ns.map V.int) (some ((3:Nat):Int)) (some ((63:Nat):Int))).length≤60
  unfold g6
  rw[HT.bE,HT.bE,List.length_take,List.length_drop,List.length_map]
  omega
 generalize hm:(g6 (ns.map V.int) (some 3) (some 63)).length=m at *
 refine⟨_,rfl,by omega,by omega,?_⟩
 have emt:((m:Int)).toNat=m:=Int.toNat_natCast m
 rw[emt]
 refine fN (lo:=0) (n:=m) (fun i σ H'=>∃(ws:List V) (evs:List Ew) (I:List Nat) (d:Nat) (v5 v6:Option V),σ=[some (.ref a),some (.ref b),some (.int bs),some (.ref le),some (.int d),v5,v6]∧qk H H'∧H' le=some (.lst ws)∧Paired (JP le H') ws evs∧(∀e∈evs,e.ok)∧aX 0 evs=some d∧d≤6∧evs.length=i∧vg evs=I.map (fun (j:Nat)=>cE c (j:Int))∧I.Nodup∧∀x∈I,x < bs + i)
  ⟨[],[],[],0,none,none,by rw[←ebs];rfl,s1.trans s2,s2 _ _ e1,.nil,fun _ z=>(by cases z),rfl,by omega,rfl,rfl,by simp,fun _ z=>(by cases z)⟩ ?_ ?_
 ·rintro i σ H3 hi ⟨ws,evs,I,d,v5,v6,rfl,s3,e3,hP,jc,hdp,h6,hlen,hlab,hnd,hI⟩
  have hA3:=s3.seq hA
  have hS3:=s3.seq hS
  have hm':i < m:=by omega
  walk_at "rd"
  refine⟨b,3 + (0 + (i:Int)),ns,rfl,hS3,by omega,?_⟩
  have hix:sG ((NN c).map V.str) ((bs:Int) + (0 + (i:Int)))=some (.str (cE c ((bs + i:Nat):Int))):=by
   rw[pP (by omega) (by omega),show ((bs:Int) + (0 + (i:Int))).toNat=bs + i by omega,nH c (by omega)]
  refine⟨_,rfl,_,rfl,_,rfl,_,_,rfl,rfl,a,_,_,_,rfl,rfl,hA3,hix,?_⟩
  refine⟨_,rfl,a,c,_,_,d,rfl,hA3,(K9 ns _).1,tN c,fun v e H4 s4 he hg=>?_⟩
  obtain⟨g1,g2,g3⟩:=hg
  obtain⟨d',ed⟩:=Option.isSome_iff_exists.mp g3
  have hF:JP le H4 v e:=he le (by rw[e3];intro z;cases z)
  obtain⟨p,xs,rfl,ep,ex⟩:=hF.ev.first
  refine⟨_,rfl,_,rfl,p,_,_,_,rfl,rfl,yy.of ep,ex,?_⟩
  walk_at "rd"
  refine .inr ⟨_,rfl,?_⟩
  walk_at "rd"
  refine⟨p,_,_,_,rfl,rfl,yy.of ep,ex,?_⟩
  walk_at "rd"
  refine .inr ⟨_,rfl,?_⟩
  walk_at "rd"
  have e4:=s4 _ _ e3
  refine⟨le,_,_,rfl,rfl,e4,qj (by have:=Paired.length hP;omega),?_⟩
  intro H5 k5 e5
  have sB:qk H H5:=k5.put (s3.trans s4) hle
  have hd6:d'≤6:=Gv ed h6
  refine⟨ws ++ [.ref p],evs ++ [e],if hV e=[] then I else I ++ [bs + i],d',_,_,by rw[←Gm ed];rfl,sB,e5,Paired.snoc (Paired.imp' (fun _ _ z=>(z.same s4).keeps k5 e4) hP) (hF.keeps k5 e4),fun x hx=>?_,by rw[nO,hdp];show (dp d e).bind _=_;rw[ed];rfl,hd6,by rw[List.length_append,hlen];rfl,?_,?_,fun x hx=>?_⟩
  ·(rcases List.mem_append.mp hx with hx | hx)
   ·exact jc x hx
   ·rw[List.mem_singleton.mp hx];exact g1
  ·rw[tD,hlab]
   have e1:vg [e]=hV e:=by simp [vg]
   rw[e1]
   rcases g2 with g2 | g2
   ·rw[if_pos g2,g2,List.append_nil]
   ·rw[if_neg (by rw[g2];simp),g2,List.map_append];rfl
  ·split
   ·exact hnd
   ·rw[List.nodup_append]
    exact⟨hnd,by simp,fun x hx y hy z=>by have:=hI x hx;rw[List.mem_singleton.mp hy] at z;omega⟩
  ·split at hx
   ·have:=hI x hx;omega
   ·(rcases List.mem_append.mp hx with hx | hx)
    ·have:=hI x hx;omega
    ·rw[List.mem_singleton.mp hx];omega
 ·rintro σ H3 ⟨ws,evs,I,d,v5,v6,rfl,s3,e3,hP,jc,hdp,h6,hlen,hlab,hnd,hI⟩
  walk_at "rd"
  intro tq H4 s4 htq e4
  walk_at "rd"
  intro lq H5 s5 hlq e5
  refine⟨_,rfl,lq,(d:Int),_,rfl,rfl,e5,by omega,by omega,qj (by simp only[List.length_cons,List.length_nil,Int.toNat_natCast];omega),fun q hq=>?_⟩
  have s6:qk H5 (upd H5 q (.lst (List.replicate ((d:Nat):Int).toNat [V.ref tq]).flatten)):=qk.og hq
  have hwl:ws.length=evs.length:=Paired.length hP
  refine⟨le,q,_,_,rfl,rfl,s6 _ _ (s5 _ _ (s4 _ _ e3)),qx,qj (by rw[len_rep];simp only[List.length_cons,List.length_nil,Int.toNat_natCast];omega),?_⟩
  intro l7 H7 s7 hl7 e7
  have sA:=(((s3.trans s4).trans s5).trans s6).trans s7
  rw[Int.toNat_natCast,oY] at e7
  refine k l7 H7 _ (evs ++ List.replicate d .dn) sA ((((s3.trans s4).trans s5).trans s6).free hl7) e7 (Paired.app (Paired.imp' (fun _ _ z=>(z.ev).same (((s4.trans s5).trans s6).trans s7)) hP) (lP (show pG H7 (.ref tq) .dn from ⟨tq,rfl,((s5.trans s6).trans s7) _ _ e4⟩) d)) ⟨fun e he=>?_,?_,?_,?_⟩
  ·(rcases List.mem_append.mp he with he | he)
   ·exact jc e he
   ·rw[(List.mem_replicate.mp he).2];exact True.intro
  ·rw[nO,hdp];exact J4 d
  ·rw[tD,iS,List.append_nil,hlab];exact i5 hnd fun x hx=>by have:=hI x hx;omega
  ·rw[List.length_append,List.length_replicate];omega
end
theorem Vj {α:Type} (f:α→V) (xs:List α) (n m:Nat) (h:n + m≤xs.length):g6 (xs.map f) (some (n:Int)) (some ((n + m:Nat):Int))=((xs.drop n).take m).map f:=by
 unfold g6
 rw[HT.bE,HT.bE,List.length_map,Nat.min_eq_left (show n≤xs.length by omega),Nat.min_eq_left (show n + m≤xs.length from h),←List.map_drop,←List.map_take,Nat.add_sub_cancel_left]
theorem JF (c:Int) {n m:Nat} (h:n + m≤104):((NN c).drop n).take m=(List.range m).map fun (j:Nat)=>cE c ((n + j:Nat):Int):=by
 apply List.ext_getElem?
 intro i
 by_cases q:i < m
 ·rw[List.getElem?_take_of_lt q,List.getElem?_drop,List.getElem?_map,List.getElem?_range q]
  unfold NN
  rw[List.getElem?_map,List.getElem?_range (by omega)]
  rfl
 ·rw[List.getElem?_eq_none_iff.mpr (by rw[List.length_take];omega),List.getElem?_eq_none_iff.mpr (by rw[List.length_map,List.length_range];omega)]
structure Pk (c:Int) (ps as:List Str) (qR:List (Str × Str)):Prop where
 hd:YS ps as qR
 ps:ps=(List.range ps.length).map fun (j:Nat)=>cE c (j:Int)
 as:as=(List.range as.length).map fun (j:Nat)=>cE c ((4 + j:Nat):Int)
 qR:qR.map (·.2)=(List.range qR.length).map fun (j:Nat)=>cE c ((10 + j:Nat):Int)
theorem Xh (c:Int) {n0 n1 n2:Nat} (h0:n0≤4) (h1:n1≤6) (h2:n2≤12):((List.range n0).map (fun (j:Nat)=>cE c (j:Int)) ++ (List.range n1).map (fun (j:Nat)=>cE c ((4 + j:Nat):Int)) ++ (List.range n2).map (fun (j:Nat)=>cE c ((10 + j:Nat):Int))).Nodup:=by
 have:=i5 (c:=c) (I:=List.range n0 ++ (List.range n1).map (4 + ·) ++ (List.range n2).map (10 + ·)) ?_ ?_
 ·rw[List.map_append,List.map_append,List.map_map,List.map_map] at this
  exact this
 ·rw[List.nodup_append,List.nodup_append]
  refine⟨⟨List.nodup_range,?_,?_⟩,?_,?_⟩
  ·exact List.Pairwise.map _ (fun a b h z=>h (by omega)) List.nodup_range
  ·intro x hx y hy z
   obtain⟨j,_,rfl⟩:=List.mem_map.mp hy
   have:=List.mem_range.mp hx
   omega
  ·exact List.Pairwise.map _ (fun a b h z=>h (by omega)) List.nodup_range
  ·intro x hx y hy z
   obtain⟨j,_,rfl⟩:=List.mem_map.mp hy
   (rcases List.mem_append.mp hx with hx | hx)
   ·have:=List.mem_range.mp hx;omega
   ·obtain⟨j',hj',rfl⟩:=List.mem_map.mp hx
    have:=List.mem_range.mp hj'
    omega
 ·intro x hx
  (rcases List.mem_append.mp hx with hx | hx)
  ·(rcases List.mem_append.mp hx with hx | hx)
   ·have:=List.mem_range.mp hx;omega
   ·obtain⟨j',hj',rfl⟩:=List.mem_map.mp hx
    have:=List.mem_range.mp hj'
    omega
  ·obtain⟨j',hj',rfl⟩:=List.mem_map.mp hx
   have:=List.mem_range.mp hj'
   omega
noncomputable def QJ (H:Hp) (p:Addr) (ps as:List Str) (qR:List (Str × Str)):Prop:=∃lp la lr vs,H p=some (.tup [.ref lp,.ref la,.ref lr])∧H lp=some (.lst (ps.map V.str))∧H la=some (.lst (as.map V.str))∧H lr=some (.lst vs)∧Paired (wo H) vs qR
theorem QJ.same {H H':Hp} {p:Addr} {ps as:List Str} {qR:List (Str × Str)} (h:QJ H p ps as qR) (s:qk H H'):QJ H' p ps as qR:=by
 obtain⟨lp,la,lr,vs,h1,h2,h3,h4,h5⟩:=h
 exact⟨lp,la,lr,vs,s _ _ h1,s _ _ h2,s _ _ h3,s _ _ h4,Paired.imp' (fun _ _ z=>z.same s) h5⟩
noncomputable def Km (K:PySem.W.Frag):Sp:=fun vs H Q _=>∃(a:Addr) (c cell:Int),vs=[.ref a,.int cell]∧qD K H a ((NN c).map V.str)∧0≤cell∧∀ps as qR p H',Pk c ps as qR→qk H H'→H p=none→QJ H' p ps as qR→Q (.ref p) H'
noncomputable def HU:List Str:=["calm","sore","end"]
theorem Gr:∀j < 3,HU.getD j ""∈xo:=by decide +kernel
section
variable {P:Program} {w:World} {K:PySem.W.Frag} {mg:Str→Option Value} {base:Heap} {t:jt}
theorem yu:qo ["_law_names","_law_cell","_law_parties","_law_acts","_law_rooms","_law_k"] ["_law_names","_law_cell"] (z4 kf):=⟨rfl,rfl,rfl,by decide +kernel,rfl,by decide +kernel,by decide +kernel⟩
set_option maxHeartbeats 400000 in
theorem eg (T:Txt K mg t):qi P w K mg base jk 2 t.bB t.bX ["_law_names","_law_cell"] (Km K):=by
 have G_w_mix:qi P w K mg base jk 1 t.bP t.bK ["_law_cell","_law_k"] aq:=(cf T).mono (by decide)
 refine T.fH.fn.ok yu (fun vs H Q E h=>(by obtain⟨_,_,_,rfl,_⟩:=h;rfl)) (fun cdv A outer s H vs Q E hr h=>?_)
 obtain⟨a,c,cell,rfl,hA,hc,k⟩:=h
 refine⟨_,(z6 (qZ (i:=2) yu.nd rfl (Or.inl rfl) (kT (kL (K:=K) rfl) (pv 0) gP (xi (qg ka z7 (qg jw (pv 1) z7)))))
   (z6 (qZ (i:=3) yu.nd rfl (Or.inl rfl) (kT (kL (K:=K) rfl) (pv 0) (xi z7) (xi (qg ka z7 (qg jw (qg wc (pv 1) z7) z7)))))
   (z6 (qZ (i:=4) yu.nd rfl (Or.inl rfl) (qF z5) vQ)
   (z6 (yJ PassesOwn.never rfl (yS rfl T.gs (z0 (qg ka z7 (qg jw (qg wc (pv 1) z7) z7)) z5)) (jC (i:=5) yu.nd rfl (Or.inl rfl))
    (z8 (q0 (ji PySem.F.plainAttrs_list PySem.F.slot_list_append PySem.F.type_list_append jv (pv 4) (z0 (xm (z0 (qy (qf (K:=K) rfl) (qF (z0 qq (z0 qq (z0 qq z5)))) (qg jw (qm G_w_mix hr rfl T.xg.mg T.xg.fn.kp T.xg.bd .nil qQ (z0 (pv 1) (z0 (pv 5) z5))) z7) (fun _ _=>rfl)) (z0 (qy (qf (K:=K) rfl) (pv 0) (qg ka z7 (pv 5)) (fun _ _=>rfl)) z5))) z5)))))
   (z8 (qw (xm (z0 (pv 2) (z0 (pv 3) (z0 (pv 4) z5)))))))))),?_⟩
 have hN:=nB c
 have m0a:0≤cell % 4:=Int.emod_nonneg _ (by decide)
 have m0b:cell % 4 < 4:=Int.emod_lt_of_pos _ (by decide)
 have m1a:0≤cell / 4 % 6:=Int.emod_nonneg _ (by decide)
 have m1b:cell / 4 % 6 < 6:=Int.emod_lt_of_pos _ (by decide)
 have m2a:0≤cell / 24 % 12:=Int.emod_nonneg _ (by decide)
 have m2b:cell / 24 % 12 < 12:=Int.emod_lt_of_pos _ (by decide)
 obtain⟨n0,en0⟩:=Int.eq_ofNat_of_zero_le (show 0≤1 + cell % 4 by omega)
 obtain⟨n1,en1⟩:=Int.eq_ofNat_of_zero_le (show 0≤1 + cell / 4 % 6 by omega)
 obtain⟨n2,en2⟩:=Int.eq_ofNat_of_zero_le (show 0≤1 + cell / 24 % 12 by omega)
 walk_at "rd"
 intro lp H1 s1 hlp e1
 have e1':H1 lp=some (.lst (((NN c).take n0).map V.str)):=by rw[←rG V.str (NN c) n0,←en0];exact e1
 clear e1
 have hA1:=s1.seq hA
 walk_at "rd"
 intro la H2 s2 hla e2
 have e2':H2 la=some (.lst ((((NN c).drop 4).take n1).map V.str)):=by
  rw[←Vj V.str (NN c) 4 n1 (by omega),show ((4 + n1:Nat):Int)=5 + cell / 4 % 6 by omega]
  exact e2
 clear e2
 walk_at "rd"
 intro lr H3 s3 hlr e3
 walk_at "rd"
 have ent:(1 + cell / 24 % 12).toNat=n2:=by omega
 have sA:qk H H3:=(s1.trans s2).trans s3
 have hlr0:H lr=none:=(s1.trans s2).free hlr
 have ne1:lp≠lr:=qv (s2 _ _ e1') hlr
 have ne2:la≠lr:=qv e2' hlr
 refine fN (lo:=0) (n:=(1 + cell / 24 % 12).toNat) (fun i σ H'=>∃(vs:List V) (qR:List (Str × Str)) (v5:Option V),σ=[some (.ref a),some (.int cell),some (.ref lp),some (.ref la),some (.ref lr),v5]∧qk H H'∧H' lr=some (.lst vs)∧H' lp=some (.lst (((NN c).take n0).map V.str))∧H' la=some (.lst ((((NN c).drop 4).take n1).map V.str))∧Paired (wo H') vs qR∧(∀mn∈qR,dh mn)∧qR.map (·.2)=(List.range i).map (fun (j:Nat)=>cE c ((10 + j:Nat):Int)))
  ⟨[],[],none,rfl,sA,e3,s3 _ _ (s2 _ _ e1'),s3 _ _ e2',.nil,fun _ z=>(by cases z),rfl⟩ ?_ ?_
 ·rintro i σ H4 hi ⟨vs,qR,v5,rfl,s4,e4,p4,a4,hP,h4,g4⟩
  rw[ent] at hi
  have hA4:=s4.seq hA
  have x0:0≤gu cell (0 + (i:Int)) % 3:=Int.emod_nonneg _ (by decide)
  have x1:gu cell (0 + (i:Int)) % 3 < 3:=Int.emod_lt_of_pos _ (by decide)
  have hlen:qR.length=i:=by have:=congrArg List.length g4;simpa using this
  have ei:(NN c).getD (10 + (0 + (i:Int))).toNat (Str.ofString "")=cE c ((10 + i:Nat):Int):=by
   rw[show (10 + (0 + (i:Int))).toNat=10 + i by omega];exact nH c (by omega)
  walk_at "rd"
  intro l8 H8 s8 hl8 e8
  have e8':H8 l8=some (.lst (HU.map V.str)):=e8
  clear e8
  have hA8:=s8.seq hA4
  refine⟨_,rfl,_,rfl,cell,_,rfl,by omega,by omega,?_⟩
  refine⟨_,_,rfl,rfl,(show (0:Int) < 3 by decide),?_⟩
  refine⟨l8,_,_,_,rfl,rfl,qD.of e8',pP x0 (show _ < (3:Int) from x1),?_⟩
  refine⟨_,rfl,_,rfl,_,_,rfl,rfl,a,_,_,_,rfl,rfl,hA8,pP (by omega) (by omega),?_⟩
  rw[ei]
  have hm:=Gr (gu cell (0 + (i:Int)) % 3).toNat (by omega)
  walk_at "rd"
  intro q H9 s9 hq e9
  have e49:=s9 _ _ (s8 _ _ e4)
  refine⟨lr,_,_,rfl,rfl,e49,qj (by have:=Paired.length hP;omega),?_⟩
  intro H10 k10 e10
  have hP9:Paired (wo H9) (vs ++ [.ref q]) (qR ++ [(HU.getD (gu cell (0 + (i:Int)) % 3).toNat "",cE c ((10 + i:Nat):Int))]):=Paired.snoc (Paired.imp' (fun _ _ z=>z.same (s8.trans s9)) hP) ⟨q,rfl,e9⟩
  refine⟨_,_,_,rfl,k10.put ((s4.trans s8).trans s9) hlr0,e10,k10.look (s9 _ _ (s8 _ _ p4)) ne1,k10.look (s9 _ _ (s8 _ _ a4)) ne2,Paired.imp' (fun _ _ z=>z.keeps k10 e49) hP9,fun mn hmn=>?_,?_⟩
  ·(rcases List.mem_append.mp hmn with q | q)
   ·exact h4 mn q
   ·rw[List.mem_singleton.mp q];exact⟨hm,tN c⟩
  ·rw[List.map_append,g4,List.range_succ,List.map_append];rfl
 ·rintro σ H4 ⟨vs,qR,v5,rfl,s4,e4,p4,a4,hP,h4,g4⟩
  rw[ent] at g4
  have hlen:qR.length=n2:=by have:=congrArg List.length g4;simpa using this
  have lps:((NN c).take n0).length=n0:=by rw[List.length_take,hN];omega
  have las:(((NN c).drop 4).take n1).length=n1:=by rw[List.length_take,List.length_drop,hN];omega
  have e0:(NN c).take n0=(List.range n0).map fun (j:Nat)=>cE c (j:Int):=by
   have:=JF c (n:=0) (m:=n0) (by omega)
   rw[List.drop_zero] at this
   rw[this]
   exact List.map_congr_left fun j _=>by rw[Nat.zero_add]
  have e1:=JF c (n:=4) (m:=n1) (by omega)
  have nd:=Xh c (n0:=n0) (n1:=n1) (n2:=n2) (by omega) (by omega) (by omega)
  walk_at "rd"
  intro q H5 s5 hq e5
  refine k _ _ qR q H5 ⟨⟨by omega,by omega,by omega,by omega,by omega,by omega,fun x hx=>?_,fun x hx=>?_,h4,by rw[g4,e0,e1];exact nd⟩,by rw[lps];exact e0,by rw[las];exact e1,by rw[hlen];exact g4⟩ (s4.trans s5) (s4.free hq) ⟨lp,la,lr,vs,e5,s5 _ _ p4,s5 _ _ a4,s5 _ _ e4,Paired.imp' (fun _ _ z=>z.same s5) hP⟩
  ·rw[e0] at hx
   obtain⟨j,_,rfl⟩:=List.mem_map.mp hx
   exact tN c
  ·rw[e1] at hx
   obtain⟨j,_,rfl⟩:=List.mem_map.mp hx
   exact tN c
end
theorem iO:("let " : Str).cps.toList=("let" : Str).cps.toList ++ [32]∧(" be " : Str).cps.toList=32 :: (("be" : Str).cps.toList ++ [32])∧(" " : Str).cps.toList=[32]∧("must " : Str).cps.toList=("must" : Str).cps.toList ++ [32]∧(" by " : Str).cps.toList=32 :: (("by" : Str).cps.toList ++ [32])∧(" else " : Str).cps.toList=32 :: (("else" : Str).cps.toList ++ [32])∧("may " : Str).cps.toList=("may" : Str).cps.toList ++ [32]∧("may not " : Str).cps.toList=("may" : Str).cps.toList ++ 32 :: (("not" : Str).cps.toList ++ [32])∧("by " : Str).cps.toList=("by" : Str).cps.toList ++ [32]∧(" to " : Str).cps.toList=32 :: (("to" : Str).cps.toList ++ [32]):=by decide +kernel
theorem X7 (a b:Str):Str.ofString "let " ++ a ++ Str.ofString " be " ++ b=Ew.row (.lt a b):=by
 obtain⟨h1,h2,h3,h4,h5,h6,h7,h8,h9,h10⟩:=iO
 refine kd ?_
 unfold Ew.row Ew.ws
 rw[join_eq,qX,qX,qX,L2.join_one,cps_append,cps_append,cps_append,h1,h2]
 simp
theorem X8 (l w a s r:Str):l ++ Str.ofString " " ++ w ++ Str.ofString " " ++ Str.ofString "must " ++ a ++ Str.ofString " by " ++ s ++ Str.ofString " else " ++ r=Txt.join " " [l,w,"must",a,"by",s,"else",r]:=by
 obtain⟨h1,h2,h3,h4,h5,h6,h7,h8,h9,h10⟩:=iO
 refine kd ?_
 rw[join_eq,qX,qX,qX,qX,qX,qX,qX,L2.join_one,cps_append,cps_append,cps_append,cps_append,cps_append,cps_append,cps_append,cps_append,cps_append,h3,h4,h5,h6]
 simp
theorem X9 (l w a:Str):l ++ Str.ofString " " ++ w ++ Str.ofString " " ++ Str.ofString "may " ++ a=Ew.row (.my l w a):=by
 obtain⟨h1,h2,h3,h4,h5,h6,h7,h8,h9,h10⟩:=iO
 refine kd ?_
 unfold Ew.row Ew.ws
 rw[join_eq,qX,qX,qX,L2.join_one,cps_append,cps_append,cps_append,cps_append,cps_append,h3,h7]
 simp
theorem X6 (l w a r:Str):l ++ Str.ofString " " ++ w ++ Str.ofString " " ++ Str.ofString "may not " ++ a ++ Str.ofString " else " ++ r=Ew.row (.bn l w a r):=by
 obtain⟨h1,h2,h3,h4,h5,h6,h7,h8,h9,h10⟩:=iO
 refine kd ?_
 unfold Ew.row Ew.ws
 rw[join_eq,qX,qX,qX,qX,qX,qX,L2.join_one,cps_append,cps_append,cps_append,cps_append,cps_append,cps_append,cps_append,h3,h6,h8]
 simp
theorem Kz (l w a r:Str):l ++ Str.ofString " " ++ w ++ Str.ofString " " ++ Str.ofString "by " ++ a ++ Str.ofString " to " ++ r=Ew.row (.pw l w a r):=by
 obtain⟨h1,h2,h3,h4,h5,h6,h7,h8,h9,h10⟩:=iO
 refine kd ?_
 unfold Ew.row Ew.ws
 rw[join_eq,qX,qX,qX,qX,qX,L2.join_one,cps_append,cps_append,cps_append,cps_append,cps_append,cps_append,cps_append,h3,h9,h10]
 simp
theorem mj {u:Str} (h:af u):u.length≤8:=by
 rcases h with h | rfl
 ·exact(vF h).2.1
 ·decide +kernel
theorem qG {u:Str} (h:qK u=true):u.length≤8:=(vF h).2.1
noncomputable def Wn:Sp:=fun vs H Q _=>∃(v:V) (e:Ew),vs=[v]∧pG H v e∧e.ok∧∀H',qk H H'→Q (.str e.row) H'
section
variable {P:Program} {w:World} {K:PySem.W.Frag} {mg:Str→Option Value} {base:Heap} {t:jt}
theorem sq:qo ["_law_event_here","_law_head"] ["_law_event_here"] (z4 yD):=⟨rfl,rfl,rfl,by decide +kernel,rfl,by decide +kernel,by decide +kernel⟩
set_option maxHeartbeats 400000 in
theorem XF (T:Txt K mg t):qi P w K mg base jk 1 t.uN t.uT ["_law_event_here"] Wn:=by
 refine T.ag.fn.ok sq (fun vs H Q E h=>(by obtain⟨_,_,rfl,_⟩:=h;rfl)) (fun cdv A outer s H vs Q E hr h=>?_)
 obtain⟨v,e,rfl,hE,jc,k⟩:=h
 refine⟨_,(z6 (qP (ql jd (qy (qu (K:=K) rfl) (pv 0) z7 (fun _ _=>rfl)) qq (qe _))
    (z8 (qw qq)) qr)
   (z6 (qP (ql jd (qy (qu (K:=K) rfl) (pv 0) z7 (fun _ _=>rfl)) qq (qe _))
    (z8 (qw (qg qt (qg qt (qg qt qq (qy (qu (K:=K) rfl) (pv 0) z7 (fun _ _=>rfl))) qq) (qy (qu (K:=K) rfl) (pv 0) z7 (fun _ _=>rfl))))) qr)
   (z6 (qP (ql jd (qy (qu (K:=K) rfl) (pv 0) z7 (fun _ _=>rfl)) qq (qe _))
    (z8 (qw (ji PySem.F.plainAttrs_str PySem.F.slot_str_join PySem.F.type_str_join (kc (K:=K) rfl) qq (z0 (qg wD (qg wD (qF (z0 qq (z0 (qy (qu (K:=K) rfl) (pv 0) z7 (fun _ _=>rfl)) z5))) (qg XD (qF (z0 qq z5)) (jn fU rfl T.rK PyProof.Rows.boot_int (z0 (va (rj (K:=K) rfl hr.units) (qy (qu (K:=K) rfl) (pv 0) z7 (fun _ _=>rfl)) (qF z5) (qe _)) z5)))) (qy (qu (K:=K) rfl) (pv 0) z7 (fun _ _=>rfl))) z5)))) qr)
   (z6 (qZ (i:=1) sq.nd rfl (Or.inl rfl) (qg qt (qg qt (qg qt (qy (qu (K:=K) rfl) (pv 0) z7 (fun _ _=>rfl)) qq) (qy (qu (K:=K) rfl) (pv 0) z7 (fun _ _=>rfl))) qq))
   (z6 (qP (ql jd (qy (qu (K:=K) rfl) (pv 0) z7 (fun _ _=>rfl)) qq (qe _))
    (z6 (qZ (i:=1) sq.nd rfl (Or.inl rfl) (qg qt (qg qt (qg qt (pv 1) qq) (qy (qu (K:=K) rfl) (pv 0) z7 (fun _ _=>rfl))) qq))
   (z8 (qw (qg qt (qg qt (qg qt (pv 1) (jn dm rfl T.ZH PyProof.Rows.boot_str (z0 (qy (qu (K:=K) rfl) (pv 0) z7 (fun _ _=>rfl)) z5))) qq) (qy (qu (K:=K) rfl) (pv 0) z7 (fun _ _=>rfl)))))) qr)
   (z6 (qP (ql jd (qy (qu (K:=K) rfl) (pv 0) z7 (fun _ _=>rfl)) qq (qe _))
    (z8 (qw (qg qt (qg qt (pv 1) qq) (qy (qu (K:=K) rfl) (pv 0) z7 (fun _ _=>rfl))))) qr)
   (z6 (qP (ql jd (qy (qu (K:=K) rfl) (pv 0) z7 (fun _ _=>rfl)) qq (qe _))
    (z8 (qw (qg qt (qg qt (qg qt (qg qt (pv 1) qq) (qy (qu (K:=K) rfl) (pv 0) z7 (fun _ _=>rfl))) qq) (qy (qu (K:=K) rfl) (pv 0) z7 (fun _ _=>rfl))))) qr)
   (z8 (qw (qg qt (qg qt (qg qt (qg qt (pv 1) qq) (qy (qu (K:=K) rfl) (pv 0) z7 (fun _ _=>rfl))) qq) (qy (qu (K:=K) rfl) (pv 0) z7 (fun _ _=>rfl)))))))))))),?_⟩
 cases e with
 | dn=>
  obtain⟨p,rfl,ep⟩:=hE
  have:=k H (qk.refl _)
  rw[g7] at this
  walk_at "rd"
  exact this
 | lt a b=>
  obtain⟨p,rfl,ep⟩:=hE
  have:=k H (qk.refl _)
  rw[←X7] at this
  have l1:=qG jc.1
  have l2:=qG jc.2
  walk_at "rd"
  exact this
 | mu l w a n r=>
  obtain⟨p,rfl,ep⟩:=hE
  have:=k H (qk.refl _)
  have er:Ew.row (.mu l w a n r)=_:=(X8 l w a (Str.ofString (toString n)) r).symm
  rw[er] at this
  have l1:=qG jc.1
  have l2:=qG jc.2.1
  have l3:=qG jc.2.2.1
  have l4:=qG jc.2.2.2.2.2
  have n1:=jc.2.2.2.1
  have n2:=jc.2.2.2.2.1
  have l5:=(cx n1 n2).2.2.2
  have l6:=tU (n:=n) (by omega) (by omega)
  walk_at "rd"
  exact this
 | my l w a=>
  obtain⟨p,rfl,ep⟩:=hE
  have:=k H (qk.refl _)
  rw[←X9] at this
  have l1:=qG jc.1
  have l2:=mj jc.2.1
  have l3:=qG jc.2.2
  walk_at "rd"
  exact this
 | bn l w a r=>
  obtain⟨p,rfl,ep⟩:=hE
  have:=k H (qk.refl _)
  rw[←X6] at this
  have l1:=qG jc.1
  have l2:=mj jc.2.1
  have l3:=qG jc.2.2.1
  have l4:=qG jc.2.2.2
  walk_at "rd"
  exact this
 | pw l w a r=>
  obtain⟨p,rfl,ep⟩:=hE
  have:=k H (qk.refl _)
  rw[←Kz] at this
  have l1:=qG jc.1
  have l2:=mj jc.2.1
  have l3:=qG jc.2.2.1
  have l4:=qG jc.2.2.2
  walk_at "rd"
  exact this
 | pt n rs=>
  obtain⟨p,q,rfl,ep,eq⟩:=hE
  have hl12:=jc.2.2
  walk_at "rd"
  intro l1 H1 s1 hl1 e1
  walk_at "rd"
  intro l2 H2 s2 hl2 e2
  walk_at "rd"
  intro l3 H3 s3 hl3 e3
  have sh:SeqAt.shaped (.list (rs.map PyData.str))=true:=kA fun y hy=>(cq (jc.2.1 y hy)).ok
  have sh0:SeqAt.shaped (.list (([]:List Str).map PyData.str))=true:=kA (xs:=[]) fun y hy=>by cases hy
  have eq3:=s3 _ _ (s2 _ _ (s1 _ _ eq))
  refine⟨_,_,dg.lst (qD.of eq3) (yv.strs rs),dg.lst (qD.of e3) (yv.strs []),sh,sh0,?_⟩
  rw[di]
  refine .inr ⟨_,rfl,?_⟩
  have eb:(if (if true=true then !decide (rs=[]) else decide (rs=[]))=true then (1:Int) else 0)=((if rs=[] then 0 else 1:Nat):Int):=by by_cases z:rs=[]<;>simp [z]
  rw[eb]
  have hm:(if rs=[] then 0 else 1:Nat)≤1:=by split<;>decide
  have ew:(Ew.ws (.pt n rs))=(["part",n]:List Str) ++ List.replicate (if rs=[] then 0 else 1:Nat) ("in" : Str) ++ rs:=by cases rs<;>rfl
  generalize (if rs=[] then 0 else 1:Nat)=m at *
  refine⟨l2,_,_,rfl,rfl,s3 _ _ e2,by omega,by omega,qj (by simp only[List.length_cons,List.length_nil,Int.toNat_natCast];omega),fun q4 hq4=>?_⟩
  have s4:qk H3 (upd H3 q4 (.lst (List.replicate ((m:Nat):Int).toNat [V.str (Str.ofString "in")]).flatten)):=qk.og hq4
  have e13:=s4 _ _ (s3 _ _ (s2 _ _ e1))
  refine⟨l1,q4,_,_,rfl,rfl,e13,qx,qj (by rw[len_rep];simp only[List.length_cons,List.length_nil,Int.toNat_natCast];omega),?_⟩
  intro l5 H5 s5 hl5 e5
  rw[Int.toNat_natCast,oY] at e5
  have ep5:=s5 _ _ (s4 _ _ (s3 _ _ (s2 _ _ (s1 _ _ ep))))
  have eq5:=s5 _ _ (s4 _ _ eq3)
  walk_at "rd"
  refine⟨l5,q,_,_,rfl,rfl,e5,eq5,qj (by simp only[List.length_append,List.length_cons,List.length_nil,List.length_replicate,List.length_map];omega),?_⟩
  intro l6 H6 s6 hl6 e6
  have e6':H6 l6=some (.lst ((Ew.ws (.pt n rs)).map V.str)):=by
   rw[e6,ew,List.map_append,List.map_append,List.map_replicate]
   rfl
  have ht:=fV (n:=20) (ws:=Ew.ws (.pt n rs)) fun x hx=>(Ew.wk jc x hx).2
  have hwl:(Ew.ws (.pt n rs)).length≤15:=by rw[ew];simp only[List.length_append,List.length_cons,List.length_nil,List.length_replicate];omega
  walk_at "rd"
  refine⟨_,l6,_,rfl,rfl,qD.of e6',by rw[cJ];omega,?_⟩
  exact k H6 (((((s1.trans s2).trans s3).trans s4).trans s5).trans s6)
end
structure Y2 (ps as:List Str) (qR:List (Str × Str)):Prop where
 p1:1≤ps.length
 p2:ps.length≤4
 a1:1≤as.length
 a2:as.length≤6
 r2:qR.length≤12
 pn:∀x∈ps,qK x=true
 an:∀x∈as,qK x=true
 rn:∀mn∈qR,dh mn
theorem YS.w {ps as:List Str} {qR:List (Str × Str)} (h:YS ps as qR):Y2 ps as qR:=⟨h.p1,h.p2,h.a1,h.a2,h.r2,h.pn,h.an,h.rn⟩
theorem iD {x y:Str} (e:y.cps.toList=x.cps.toList ++ [32]) {ns:List Str} (h:ns≠[]):y ++ Txt.join " " ns=mh (x :: ns):=by
 obtain⟨a,r,rfl⟩:=List.exists_cons_of_ne_nil h
 refine kd ?_
 unfold mh
 rw[cps_append,join_eq,join_eq,qX,e]
 simp
theorem Xl:("parties " : Str).cps.toList=("parties" : Str).cps.toList ++ [32]∧("acts " : Str).cps.toList=("acts" : Str).cps.toList ++ [32]∧(" " : Str).cps.toList=[32]∧("sore " : Str).cps.toList=("sore" : Str).cps.toList ++ [32]:=by decide +kernel
theorem Ye (m n:Str):m ++ Str.ofString " " ++ n=cQ (m,n):=by
 refine kd ?_
 unfold cQ mh
 rw[cps_append,cps_append,join_eq,qX,L2.join_one,Xl.2.2.1]
 simp
theorem Paired.Q8 {α β:Type} {F:α→β→Prop} {a:α}:∀{xs:List α} {ys:List β} {i:Nat},Paired F xs ys→xs[i]?=some a→∃b,ys[i]?=some b∧F a b
 | _ :: _,_ :: _,0,.cons h t,e=>by cases e;exact⟨_,rfl,h⟩
 | _ :: _,_ :: _,i + 1,.cons h t,e=>Paired.Q8 (i:=i) t e
theorem take_snoc {α:Type} {xs:List α} {i:Nat} {b:α} (h:xs[i]?=some b):xs.take (i + 1)=xs.take i ++ [b]:=by
 rw[List.take_succ,h];rfl
theorem nZ (ps as:List Str) (qR:List (Str × Str)) (e1 e2:List Ew):rowsOf ps as qR (e1 ++ e2)=rowsOf ps as qR e1 ++ e2.map Ew.row:=by unfold rowsOf;simp
theorem Qp (ps as:List Str) (qR:List (Str × Str)) (mn:Str × Str):rowsOf ps as (qR ++ [mn]) []=rowsOf ps as qR [] ++ [cQ mn]:=by unfold rowsOf;simp
theorem bp {ps as:List Str} {qR:List (Str × Str)} {evs:List Ew}:(rowsOf ps as qR evs).length=2 + qR.length + evs.length:=by unfold rowsOf;simp only[List.length_cons,List.length_append,List.length_map];omega
theorem eV:∀{ws:List V} {evs:List Ew} {H:Hp} {ys:List V},Paired (pG H) ws evs→ys.length=ws.length→(∀(i:Nat) (v:V) (e:Ew),evs[i]?=some e→ys[i]?=some v→v=.str e.row)→ys=(evs.map Ew.row).map V.str
 | [],[],_,ys,_,hl,_=>by cases ys with | nil=>rfl | cons a r=>simp at hl
 | _ :: ws,e :: evs,H,ys,.cons h t,hl,hv=>by
  cases ys with
  | nil=>simp at hl
  | cons y r=>
   rw[hv 0 y e rfl rfl,eV t (by simpa using hl) fun i v e' h1 h2=>hv (i + 1) v e' h1 h2]
   rfl
noncomputable def Ki (K:PySem.W.Frag):Sp:=fun vs H Q _=>∃(p l:Addr) (ps as:List Str) (qR:List (Str × Str)) (ws:List V) (evs:List Ew),vs=[.ref p,.ref l]∧QJ H p ps as qR∧Y2 ps as qR∧qD K H l ws∧Paired (pG H) ws evs∧(∀e∈evs,e.ok)∧evs.length≤150∧∀lr H',qk H H'→H lr=none→H' lr=some (.lst ((rowsOf ps as qR evs).map V.str))→Q (.ref lr) H'
section
variable {P:Program} {w:World} {K:PySem.W.Frag} {mg:Str→Option Value} {base:Heap} {t:jt}
theorem mq:qo ["_law_header_here","_law_events_here","_law_rows_here","_law_mark","_law_name_here"] ["_law_header_here","_law_events_here"] (z4 vi):=⟨rfl,rfl,rfl,by decide +kernel,rfl,by decide +kernel,by decide +kernel⟩
set_option maxHeartbeats 400000 in
theorem Jx (T:Txt K mg t):qi P w K mg base jk 2 t.dQ t.dt ["_law_header_here","_law_events_here"] (Ki K):=by
 have G_w_row:qi P w K mg base jk 1 t.uN t.uT ["_law_event_here"] Wn:=(XF T).mono (by decide)
 refine T.fP.fn.ok mq (fun vs H Q E h=>(by obtain⟨_,_,_,_,_,_,_,rfl,_⟩:=h;rfl)) (fun cdv A outer s H vs Q E hr h=>?_)
 obtain⟨p,l,ps,as,qR,ws,evs,rfl,hH,hW,hL,hP,jc,hlen,k⟩:=h
 refine⟨_,(z6 (qZ (i:=2) mq.nd rfl (Or.inl rfl) (qF (z0 (qg qt qq (ji PySem.F.plainAttrs_str PySem.F.slot_str_join PySem.F.type_str_join (kc (K:=K) rfl) qq (z0 (qy (qu (K:=K) rfl) (pv 0) z7 (fun _ _=>rfl)) z5))) (z0 (qg qt qq (ji PySem.F.plainAttrs_str PySem.F.slot_str_join PySem.F.type_str_join (kc (K:=K) rfl) qq (z0 (qy (qu (K:=K) rfl) (pv 0) z7 (fun _ _=>rfl)) z5))) z5))) vQ)
   (z6 (yJ PassesOwn.never rfl (vo (K:=K) rfl (qy (qu (K:=K) rfl) (pv 0) z7 (fun _ _=>rfl))) (cc (K:=K) rfl rfl (kN (jC (i:=3) mq.nd rfl (Or.inl rfl)) (kN (jC (i:=4) mq.nd rfl (Or.inl rfl)) cu)))
    (z8 (q0 (ji PySem.F.plainAttrs_list PySem.F.slot_list_append PySem.F.type_list_append jv (pv 2) (z0 (qg qt (qg qt (pv 3) qq) (pv 4)) z5)))))
   (z8 (qw (qg wD (pv 2) (cm (osc:=z4 vi) (N:=["_law_header_here","_law_events_here","_law_rows_here","_law_mark","_law_name_here"]) (names:=[]) (qN:=[]) rfl rfl rfl ⟨rfl,by decide +kernel,by decide +kernel,by decide +kernel,rfl,rfl,by decide +kernel,by decide +kernel⟩ (vo (K:=K) rfl (pv 1)) (fun _ _ _=>(qm G_w_row hr rfl T.ag.mg T.ag.fn.kp T.ag.bd .nil qQ (z0 (pv 0) z5))))))))),?_⟩
 obtain⟨lp,la,lr,vs,ep,elp,ela,elr,hR⟩:=hH
 have tp:=fV (n:=8) (ws:=ps) fun x hx=>(vF (hW.pn x hx)).2.1
 have ta:=fV (n:=8) (ws:=as) fun x hx=>(vF (hW.an x hx)).2.1
 have p1:=hW.p1;have p2:=hW.p2;have a1:=hW.a1;have a2:=hW.a2;have r2:=hW.r2
 have tp':(8 + 1) * ps.length≤9 * 4:=by omega
 have ta':(8 + 1) * as.length≤9 * 6:=by omega
 have j1:(Txt.join (Str.ofString " ") ps).length≤36:=by have:=rh ps;exact Nat.le_trans this (by omega)
 have j2:(Txt.join (Str.ofString " ") as).length≤54:=by have:=rh as;exact Nat.le_trans this (by omega)
 have w1:(Str.ofString "parties ").length=8:=by decide +kernel
 have w2:(Str.ofString "acts ").length=5:=by decide +kernel
 have np:ps≠[]:=fun z=>by rw[z] at p1;simp at p1
 have na:as≠[]:=fun z=>by rw[z] at a1;simp at a1
 walk_at "rd"
 refine⟨_,lp,ps,rfl,rfl,qD.of elp,by rw[cJ];omega,?_⟩
 refine⟨_,_,rfl,rfl,qj (by omega),?_⟩
 rw[show Str.ofString "parties " ++ Txt.join (Str.ofString " ") ps=mh ("parties" :: ps) from iD Xl.1 np]
 walk_at "rd"
 refine⟨_,la,as,rfl,rfl,qD.of ela,by rw[cJ];omega,?_⟩
 refine⟨_,_,rfl,rfl,qj (by omega),?_⟩
 rw[show Str.ofString "acts " ++ Txt.join (Str.ofString " ") as=mh ("acts" :: as) from iD Xl.2.1 na]
 refine⟨qj (by show 2≤1000;decide),?_⟩
 intro lq H1 s1 hlq e1
 have hvl:vs.length=qR.length:=Paired.length hR
 have hwl:ws.length=evs.length:=Paired.length hP
 have ep1:=s1 _ _ ep
 walk_at "rd"
 refine pL (K:=K) (a:=lr) (xs:=vs) (fun i σ H'=>∃v3 v4:Option V,σ=[some (.ref p),some (.ref l),some (.ref lq),v3,v4]∧qk H H'∧H' lq=some (.lst ((rowsOf ps as (qR.take i) []).map V.str)))
  ⟨none,none,rfl,s1,e1⟩ (fun i σ H' _ ⟨_,_,_,q,_⟩=>qD.of (q _ _ elr)) ?_ ?_
 ·rintro i y σ H2 hi ⟨v3,v4,rfl,s2,e2⟩
  obtain⟨mn,hmn,q,rfl,eq⟩:=Paired.Q8 hR hi
  have hi':i < qR.length:=(List.getElem?_eq_some_iff.mp hmn).1
  have hm:=hW.rn mn (List.mem_of_getElem? hmn)
  have eq2:=s2 _ _ eq
  have g1:=(rz _ hm.1).2.2.1
  have g2:=(vF hm.2).2.1
  refine⟨q,_,rfl,yy.of eq2,rfl,_,_,rfl,_,_,rfl,rfl,?_⟩
  walk_at "rd"
  have hrl:=@bp ps as (qR.take i) []
  refine⟨lq,_,_,rfl,rfl,e2,qj (by rw[List.length_map,hrl,List.length_take];simp only[List.length_nil];omega),?_⟩
  intro H3 k3 e3
  refine⟨_,_,rfl,k3.put s2 hlq,?_⟩
  rw[e3,Ye,take_snoc hmn,Qp,List.map_append]
  rfl
 ·rintro σ H2 ⟨v3,v4,rfl,s2,e2⟩
  rw[hvl,List.take_length] at e2
  walk_at "rd"
  have hL2:=s2.seq hL
  have hP2:Paired (pG H2) ws evs:=Paired.imp' (fun _ _ z=>z.same s2) hP
  refine gA (uj hL2) (fun i _ v=>∀e,evs[i]?=some e→v=.str e.row) (qj (by omega)) ?_ ?_
  ·intro i y H' Q' hy s' kk
   obtain⟨e,he,hE⟩:=Paired.Q8 hP2 hy
   refine⟨_,rfl,y,e,rfl,hE.same s',jc e (List.mem_of_getElem? he),fun H4 s4=>kk _ _ s4 fun e' h'=>?_⟩
   rw[he] at h'
   cases h'
   rfl
  intro D H3 ys s3 hD e3 hlen3 hp
  have eys:=eV hP2 hlen3 fun i v e h1 h2=>by
   have hi:i < ws.length:=by
    have:=(List.getElem?_eq_some_iff.mp h1).1
    omega
   exact hp i _ v (List.getElem?_eq_getElem hi) h2 e h1
  subst eys
  have hrl:=@bp ps as qR []
  refine⟨lq,D,_,_,rfl,rfl,s3 _ _ e2,e3,qj (by rw[List.length_map,hrl,List.length_map,List.length_map];simp only[List.length_nil];omega),?_⟩
  intro l4 H4 s4 hl4 e4
  refine k l4 H4 ((s2.trans s3).trans s4) ((s2.trans s3).free hl4) ?_
  have:=nZ ps as qR [] evs
  rw[List.nil_append] at this
  rw[e4,this,List.map_append]
end
theorem f9:∀{ws:List Str},(∀x∈ws,59∉x.cps.toList)→59∉(mh ws).cps.toList
 | [],_=>by unfold mh;decide +kernel
 | [x],h=>by unfold mh;rw[join_eq,L2.join_one];exact h x (by simp)
 | x :: y :: r,h=>by
  have ih:=f9 (ws:=y :: r) fun z hz=>h z (List.mem_cons_of_mem _ hz)
  unfold mh at ih ⊢
  rw[join_eq] at ih ⊢
  rw[qX]
  intro hm
  (rcases List.mem_append.mp hm with hm | hm)
  ·exact h x (by simp) hm
  ·rcases List.mem_cons.mp hm with hm | hm
   ·cases hm
   ·exact ih hm
theorem jj {x:Str} (h:qK x=true):59∉x.cps.toList:=fun hc=>by
 have h':=h
 unfold qK at h'
 rw[Bool.and_eq_true] at h'
 have:¬59∈qO.cps.toList:=by decide +kernel
 exact this ((sZ h'.1).2.2 59 hc)
theorem Zt {n:Nat}:∀{xs:List Str},(∀x∈xs,x.length≤n)→(xs.map (·.length)).sum≤n * xs.length
 | [],_=>by simp
 | x :: r,h=>by
  have h1:=h x (by simp)
  have h2:=Zt (n:=n) (xs:=r) fun y hy=>h y (List.mem_cons_of_mem _ hy)
  rw[List.map_cons,List.sum_cons,List.length_cons,Nat.mul_add]
  omega
theorem dR:∀x∈lits,59∉x.cps.toList∧x.length≤8:=by decide +kernel
theorem tY:∀x∈(["done","parties","acts"]:List Str),59∉x.cps.toList∧x.length≤8:=by decide +kernel
theorem XX {n:Int} (h1:1≤n):59∉(Str.ofString (toString n)).cps.toList:=by
 obtain⟨m,rfl⟩:=Int.eq_ofNat_of_zero_le (show 0≤n by omega)
 have e:=PySem.W.KIN.signs_num m
 intro hc
 rw[e] at hc
 obtain⟨ch,hch,e2⟩:=List.mem_map.mp hc
 have:=Nat.isDigit_of_mem_toDigits (b:=10) (by decide) (by decide) hch
 simp [Char.isDigit] at this
 have h2:ch.toNat≤57:=this.2
 have e3:ch.toNat=59:=e2
 omega
theorem YR {u:Str} (h:af u):59∉u.cps.toList:=by
 rcases h with h | rfl
 ·exact jj h
 ·exact(dR _ (by simp [lits])).1
theorem lf {x:Str} (h:x∈lits):59∉x.cps.toList:=(dR x h).1
theorem Ew.free {e:Ew} (h:e.ok):∀x∈e.ws,59∉x.cps.toList:=by
 intro x hx
 cases e with
 | lt a b=>
  simp only[Ew.ws,List.mem_cons,List.not_mem_nil,or_false] at hx
  rcases hx with rfl | rfl | rfl | rfl
  ·exact lf (by simp [lits])
  ·exact jj h.1
  ·exact lf (by simp [lits])
  ·exact jj h.2
 | mu l w a n r=>
  simp only[Ew.ws,List.mem_cons,List.not_mem_nil,or_false] at hx
  rcases hx with rfl | rfl | rfl | rfl | rfl | rfl | rfl | rfl
  ·exact jj h.1
  ·exact jj h.2.1
  ·exact lf (by simp [lits])
  ·exact jj h.2.2.1
  ·exact lf (by simp [lits])
  ·exact XX h.2.2.2.1
  ·exact lf (by simp [lits])
  ·exact jj h.2.2.2.2.2
 | my l w a=>
  simp only[Ew.ws,List.mem_cons,List.not_mem_nil,or_false] at hx
  rcases hx with rfl | rfl | rfl | rfl
  ·exact jj h.1
  ·exact YR h.2.1
  ·exact lf (by simp [lits])
  ·exact jj h.2.2
 | bn l w a r=>
  simp only[Ew.ws,List.mem_cons,List.not_mem_nil,or_false] at hx
  rcases hx with rfl | rfl | rfl | rfl | rfl | rfl | rfl
  ·exact jj h.1
  ·exact YR h.2.1
  ·exact lf (by simp [lits])
  ·exact lf (by simp [lits])
  ·exact jj h.2.2.1
  ·exact lf (by simp [lits])
  ·exact jj h.2.2.2
 | pw l w a r=>
  simp only[Ew.ws,List.mem_cons,List.not_mem_nil,or_false] at hx
  rcases hx with rfl | rfl | rfl | rfl | rfl | rfl
  ·exact jj h.1
  ·exact YR h.2.1
  ·exact lf (by simp [lits])
  ·exact jj h.2.2.1
  ·exact lf (by simp [lits])
  ·exact jj h.2.2.2
 | dn=>
  simp only[Ew.ws,List.mem_cons,List.not_mem_nil,or_false] at hx
  rw[hx];exact(tY _ (by simp)).1
 | pt n rs=>
  cases rs with
  | nil=>
   simp only[Ew.ws,List.mem_cons,List.not_mem_nil,or_false] at hx
   rcases hx with rfl | rfl
   ·exact lf (by simp [lits])
   ·exact jj h.1
  | cons y rs=>
   simp only[Ew.ws] at hx
   (rcases List.mem_cons.mp hx with rfl | hx)
   ·exact lf (by simp [lits])
   (rcases List.mem_cons.mp hx with rfl | hx)
   ·exact jj h.1
   (rcases List.mem_cons.mp hx with rfl | hx)
   ·exact lf (by simp [lits])
   ·exact jj (h.2.1 x hx)
structure aZ (x:Str):Prop where
 fr:59∉x.cps.toList
 sh:x.length≤180
theorem oG {ws:List Str} (h:∀x∈ws,x.length≤8) (hl:ws.length≤20):(mh ws).length≤180:=by
 have h1:(mh ws).length≤iw ws:=rh ws
 have h2:=fV (n:=8) (ws:=ws) h
 omega
theorem Ew.Bg {e:Ew} (h:e.ok):aZ e.row:=by
 refine⟨f9 (Ew.free h),?_⟩
 have h1:e.row.length≤iw e.ws:=rh e.ws
 by_cases q:e.ws.length≤8
 ·have h2:=fV (n:=20) (ws:=e.ws) fun x hx=>(Ew.wk h x hx).2
  omega
 cases e with
 | pt n rs=>
  cases rs with
  | nil=>exact absurd (by simp [Ew.ws]) q
  | cons y rs=>
   refine oG (ws:=(Ew.pt n (y :: rs)).ws) (fun x hx=>?_) ?_
   ·simp only[Ew.ws] at hx
    (rcases List.mem_cons.mp hx with rfl | hx)
    ·exact(dR _ (by simp [lits])).2
    (rcases List.mem_cons.mp hx with rfl | hx)
    ·exact qG h.1
    (rcases List.mem_cons.mp hx with rfl | hx)
    ·exact(dR _ (by simp [lits])).2
    ·exact qG (h.2.1 x hx)
   ·have:=h.2.2
    simp only[Ew.ws,List.length_cons] at this ⊢
    omega
 | dn=>exact absurd (by simp [Ew.ws]) q
 | lt a b=>exact absurd (by simp [Ew.ws]) q
 | mu l w a n r=>exact absurd (by simp [Ew.ws]) q
 | my l w a=>exact absurd (by simp [Ew.ws]) q
 | bn l w a r=>exact absurd (by simp [Ew.ws]) q
 | pw l w a r=>exact absurd (by simp [Ew.ws]) q
theorem ZA {x:Str} {ns:List Str} (hx:x∈(["done","parties","acts"]:List Str)) (hn:∀y∈ns,qK y=true) (hl:ns.length≤6):aZ (mh (x :: ns)):=by
 have key:∀y∈x :: ns,59∉y.cps.toList∧y.length≤8:=fun y hy=>by
  (rcases List.mem_cons.mp hy with rfl | hy)
  ·exact tY _ hx
  ·exact⟨jj (hn y hy),qG (hn y hy)⟩
 exact⟨f9 fun y hy=>(key y hy).1,oG (fun y hy=>(key y hy).2) (by simp only[List.length_cons];omega)⟩
theorem GP {mn:Str × Str} (h:dh mn):aZ (cQ mn):=by
 have key:∀y∈[mn.1,mn.2],59∉y.cps.toList∧y.length≤8:=fun y hy=>by
  simp only[List.mem_cons,List.not_mem_nil,or_false] at hy
  rcases hy with rfl | rfl
  ·have:=rz _ h.1;exact⟨this.2.1,by omega⟩
  ·exact⟨jj h.2,qG h.2⟩
 exact⟨f9 fun y hy=>(key y hy).1,oG (fun y hy=>(key y hy).2) (by simp)⟩
theorem Qb {ps as:List Str} {qR:List (Str × Str)} {evs:List Ew} (h:Y2 ps as qR) (he:∀e∈evs,e.ok):∀x∈rowsOf ps as qR evs,aZ x:=by
 intro x hx
 unfold rowsOf at hx
 (rcases List.mem_cons.mp hx with rfl | hx)
 ·exact ZA (by simp) h.pn (by have:=h.p2;omega)
 (rcases List.mem_cons.mp hx with rfl | hx)
 ·exact ZA (by simp) h.an (by have:=h.a2;omega)
 (rcases List.mem_append.mp hx with hx | hx)
 ·obtain⟨mn,hmn,rfl⟩:=List.mem_map.mp hx
  exact GP (h.rn mn hmn)
 ·obtain⟨e,hee,rfl⟩:=List.mem_map.mp hx
  exact Ew.Bg (he e hee)
section
variable {P:Program} {w:World} {K:PySem.W.Frag} {mg:Str→Option Value} {base:Heap} {t:jt}
end
mutual
noncomputable def jx:Rw→List Ew
 | .lt a b=>[.lt a b]
 | .cl k l u a n r=>if k=0 then [.mu l u a n r] else if k=1 then [.my l u a] else if k=2 then [.bn l u a r] else [.pw l u a r]
 | .pt n rs rows=>.pt n rs :: (qY rows ++ [.dn])
noncomputable def qY:List Rw→List Ew
 | []=>[]
 | r :: rs=>jx r ++ qY rs
end
mutual
noncomputable def uY:Rw→Nat
 | .lt _ _=>0
 | .cl _ _ _ _ _ _=>0
 | .pt _ _ rows=>wW rows + 1
noncomputable def wW:List Rw→Nat
 | []=>0
 | r :: rs=>max (uY r) (wW rs)
end
mutual
noncomputable def dW:Rw→Prop
 | .lt _ _=>True
 | .cl k _ _ _ _ _=>k=0∨k=1∨k=2∨k=3
 | .pt _ _ rows=>yZ rows
noncomputable def yZ:List Rw→Prop
 | []=>True
 | r :: rs=>dW r∧yZ rs
end
theorem cN {r:Rw} (hr:dW r):∀{a:List Rw},yZ a→yZ (a ++ [r])
 | [],_=>by rw[List.nil_append,yZ,yZ];exact⟨hr,True.intro⟩
 | x :: a,h=>by
  rw[yZ] at h
  rw[List.cons_append,yZ]
  exact⟨h.1,cN hr h.2⟩
theorem yL:∀(a b:List Rw),qY (a ++ b)=qY a ++ qY b
 | [],b=>by rw[List.nil_append,qY,List.nil_append]
 | r :: a,b=>by rw[List.cons_append,qY,qY,yL a b,List.append_assoc]
theorem rH:∀(a b:List Rw),wW (a ++ b)=max (wW a) (wW b)
 | [],b=>by rw[List.nil_append,wW];omega
 | r :: a,b=>by rw[List.cons_append,wW,wW,rH a b];omega
theorem cS (r:Rw):qY [r]=jx r:=by rw[qY,qY,List.append_nil]
theorem iB (r:Rw):wW [r]=uY r:=by rw[wW,wW];omega
noncomputable def vn:List Fr→List Ew
 | []=>[]
 | (n,rs,rows) :: fr=>(if fr=[] then [] else vn fr ++ [.pt n rs]) ++ qY rows
noncomputable def uW:List Fr→Prop
 | []=>False
 | (n,rs,rows) :: fr=>wW rows + fr.length≤6∧yZ rows∧(if fr=[] then n = "whole"∧rs=[] else uW fr)
theorem uW.len {fr:List Fr} (h:uW fr):fr.length≤7:=by
 match fr,h with
 | (n,rs,rows) :: fr,h=>have:=h.1;simp only[List.length_cons];omega
theorem bb {fr:List Fr} {r:Rw} (h:uW fr) (hd:uY r=0) (hk:dW r):uW (push fr r)∧vn (push fr r)=vn fr ++ jx r:=by
 match fr,h with
 | (n,rs,rows) :: fr,h=>
  refine⟨⟨?_,cN hk h.2.1,h.2.2⟩,?_⟩
  ·rw[rH,iB,hd];have:=h.1;omega
  ·show (if fr=[] then [] else vn fr ++ [.pt n rs]) ++ qY (rows ++ [r])=((if fr=[] then [] else vn fr ++ [.pt n rs]) ++ qY rows) ++ jx r
   rw[yL,cS,List.append_assoc]
theorem nJ {fr fr':List Fr} {ls ls':List Str} {e:Ew} (h:uW fr) (ht:e.take fr ls=some (fr',ls')):uW fr'∧vn fr'=vn fr ++ [e]:=by
 cases e with
 | lt a b=>
  cases ht
  exact bb h (by rw[uY]) (by rw[dW];exact True.intro)
 | mu l w a n r=>
  rw[Ew.take] at ht
  split at ht
  ·cases ht
  ·cases ht
   have:=bb (r:=.cl 0 l w a n r) h (by rw[uY]) (by rw[dW];simp)
   exact this
 | my l w a=>
  rw[Ew.take] at ht
  split at ht
  ·cases ht
  ·cases ht
   have:=bb (r:=.cl 1 l w a 0 "") h (by rw[uY]) (by rw[dW];simp)
   exact this
 | bn l w a r=>
  rw[Ew.take] at ht
  split at ht
  ·cases ht
  ·cases ht
   have:=bb (r:=.cl 2 l w a 0 r) h (by rw[uY]) (by rw[dW];simp)
   exact this
 | pw l w a r=>
  rw[Ew.take] at ht
  split at ht
  ·cases ht
  ·cases ht
   have:=bb (r:=.cl 3 l w a 0 r) h (by rw[uY]) (by rw[dW];simp)
   exact this
 | pt n rs=>
  rw[Ew.take] at ht
  split at ht
  ·cases ht
  ·rename_i hq
   cases ht
   have hl:=h.len
   have h7:¬fr.length=7:=fun z=>hq (.inl z)
   have hne:fr≠[]:=fun z=>by rw[z] at h;exact h
   refine⟨⟨by rw[wW];omega,by rw[yZ];exact True.intro,by rw[if_neg hne];exact h⟩,?_⟩
   show (if fr=[] then [] else vn fr ++ [.pt n rs]) ++ qY []=_
   rw[if_neg hne,qY,List.append_nil]
 | dn=>
  match fr,h,ht with
  | (n,rs,rows) :: (n2,rs2,rows2) :: fr,h,ht=>
   cases ht
   have h2:uW ((n2,rs2,rows2) :: fr):=by
    have:=h.2.2
    rw[if_neg (by simp)] at this
    exact this
   have h1:=h.1
   have h3:=h2.1
   simp only[List.length_cons] at h1
   refine⟨⟨?_,cN (by rw[dW];exact h.2.1) h2.2.1,h2.2.2⟩,?_⟩
   ·rw[rH,iB,uY];omega
   ·show (if fr=[] then [] else vn fr ++ [.pt n2 rs2]) ++ qY (rows2 ++ [.pt n rs rows])=((if ((n2,rs2,rows2) :: fr)=[] then [] else vn ((n2,rs2,rows2) :: fr) ++ [.pt n rs]) ++ qY rows) ++ [.dn]
    rw[if_neg (show ¬((n2,rs2,rows2) :: fr)=[] by simp),yL,cS,jx]
    show _=((((if fr=[] then [] else vn fr ++ [.pt n2 rs2]) ++ qY rows2) ++ [.pt n rs]) ++ qY rows) ++ [.dn]
    simp only[List.append_assoc,List.cons_append,List.nil_append]
  | [],h,_=>exact h.elim
  | [f],_,ht=>cases ht
theorem eY:∀{evs:List Ew} {i:Nat} {fr fr':List Fr} {ls:List Str},Zb i evs fr ls=.ok fr'→uW fr→uW fr'∧vn fr'=vn fr ++ evs
 | [],i,fr,fr',ls,h,hf=>by cases h;exact⟨hf,by rw[List.append_nil]⟩
 | e :: r,i,fr,fr',ls,h,hf=>by
  rw[Zb] at h
  split at h
  ·cases h
  ·split at h
   ·cases h
   ·rename_i f1 l1 ht
    obtain⟨g1,g2⟩:=nJ hf ht
    obtain⟨g3,g4⟩:=eY h g1
    exact⟨g3,by rw[g4,g2,List.append_assoc];rfl⟩
theorem Jh {ps as:List Str} {qR:List (Str × Str)} {evs:List Ew} (h:YS ps as qR) (he:∀e∈evs,e.ok) (hd:aX 0 evs=some 0) (hn:(vg evs).Nodup) (hl:evs.length≤76) :
  ∃rows,pZ (rowsOf ps as qR evs)=.ok (ps,as,qR,.pt "whole" [] rows)∧qY rows=evs∧wW rows≤6∧yZ rows:=by
 have h6:=h.r2
 obtain⟨fr,e1,l1⟩:=Kk (i:=2 + qR.length) (fr:=[("whole",[],[])]) (ls:=[]) hd rfl (by decide) (by simpa using hn) (by omega)
 obtain⟨g1,g2⟩:=eY e1 ⟨by rw[wW];decide,by rw[yZ];exact True.intro,by rw[if_pos rfl];exact⟨rfl,rfl⟩⟩
 match fr,l1,g1,g2,e1 with
 | [(a,b,c)],l1,g1,g2,e1=>
  have g3:=g1.2.2
  rw[if_pos rfl] at g3
  obtain⟨rfl,rfl⟩:=g3
  refine⟨c,?_,?_,by have:=g1.1;simp only[List.length_nil] at this;omega,g1.2.1⟩
  ·rw[VC h he,ia he,e1];rfl
  ·have g4:([]:List Ew) ++ qY c=([] ++ qY []) ++ evs:=g2
   rw[qY] at g4
   simpa using g4
 | f :: g :: r,l1,g1,g2,e1=>simp only[List.length_cons] at l1;omega
section
variable {P:Program} {w:World} {K:PySem.W.Frag} {mg:Str→Option Value} {base:Heap} {t:jt}
theorem B9 (T:Txt K mg t) {H:Hp} {p:Addr} {k:Int} {l w a:Str} {n:Int} {r:Str} (h:At t H p k l w a n r):wY K H (.ref p) (.ref (yA t k)):=by
 obtain⟨dx,e⟩:=h
 obtain⟨fI,F⟩:=rY T k
 have key:PySem.W.findIn K (.ref (yA t k)) "__class__" = some (some (.builtin "object.__class__"))∧PySem.W.mroIn K (yA t k) (.type "object")=some true:=by
  unfold yA
  split
  ·exact T.Qi
  split
  ·exact T.av
  split
  ·exact T.KZ
  split
  ·exact T.ay
  ·exact T.nX
 exact wY.ins e F.cl key.1 T.om T.Qj key.2
end
noncomputable def BP (k:Int) (l u a:Str) (n:Int) (r:Str):List V:=if k=0 then [.str "must",.str l,.str u,.str a,.int n,.str r] else if k=1 then [.str "may",.str l,.str u,.str a] else if k=2 then [.str "ban",.str l,.str u,.str a,.str r] else [.str "power",.str l,.str u,.str a,.str r]
noncomputable def nQ (t:jt):Sp:=fun vs H Q _=>∃(p:Addr) (k:Int) (l u a:Str) (n:Int) (r:Str),vs=[.ref p]∧At t H p k l u a n r∧(k=0∨k=1∨k=2∨k=3)∧∀tp H',qk H H'→H tp=none→H' tp=some (.tup (BP k l u a n r))→Q (.ref tp) H'
section
variable {P:Program} {w:World} {K:PySem.W.Frag} {mg:Str→Option Value} {base:Heap} {t:jt}
theorem P4 (T:Txt K mg t) {H:Hp} {p:Addr} {n m:Str} (h:V5 t H p n m):wY K H (.ref p) (.ref t.kZ):=by
 obtain⟨dx,e⟩:=h
 exact wY.ins e T.mT T.Zo.1 T.om T.Qj T.Zo.2
theorem V5.fn (T:Txt K mg t) {H:Hp} {p:Addr} {n m:Str} (h:V5 t H p n m):tf K H (.ref p) "name" (.str n):=by
 obtain⟨dx,e⟩:=h
 exact⟨p,_,dx,_,rfl,e,T.mT,T.fk,qI⟩
theorem V5.fv (T:Txt K mg t) {H:Hp} {p:Addr} {n m:Str} (h:V5 t H p n m):tf K H (.ref p) "value" (.str m):=by
 obtain⟨dx,e⟩:=h
 exact⟨p,_,dx,_,rfl,e,T.mT,T.bC,(qp fun q=>m1 (Eq.symm q)).trans qI⟩
section
variable {H:Hp} {p dx a b:Addr} {n:Str}
theorem Wg (T:Txt K mg t) (e:H p=some (.ins t.qH dx (nA n a b))):tf K H (.ref p) "name" (.str n):=⟨p,_,dx,_,rfl,e,T.kJ,T.wg,qI⟩
theorem Xz (T:Txt K mg t) (e:H p=some (.ins t.qH dx (nA n a b))):tf K H (.ref p) "rooms" (.ref a):=⟨p,_,dx,_,rfl,e,T.kJ,T.yz,(qp fun q=>m2 (Eq.symm q)).trans qI⟩
theorem Xq (T:Txt K mg t) (e:H p=some (.ins t.qH dx (nA n a b))):tf K H (.ref p) "rows" (.ref b):=⟨p,_,dx,_,rfl,e,T.kJ,T.bR,(qp fun q=>m3 (Eq.symm q)).trans ((qp fun q=>m4 (Eq.symm q)).trans qI)⟩
end
theorem eU:qo ["_law_row_here"] ["_law_row_here"] (z4 kg):=⟨rfl,rfl,rfl,by decide +kernel,rfl,by decide +kernel,by decide +kernel⟩
set_option maxHeartbeats 400000 in
theorem i9 (T:Txt K mg t):qi P w K mg base jk 1 t.bG t.bQ ["_law_row_here"] (nQ t):=by
 refine T.fG.fn.ok eU (fun vs H Q E h=>(by obtain⟨_,_,_,_,_,_,_,rfl,_⟩:=h;rfl)) (fun cdv A outer s H vs Q E hr h=>?_)
 obtain⟨p,k,l,u,a,n,r,rfl,hA,hk,kk⟩:=h
 refine⟨_,(z6 (qP (xu (qC (jR (K:=K) rfl) rfl T.jZ PyProof.Rows.boot_isinstance (z0 (pv 0) (z0 (jD rfl T.oj (v:=.ref t.xp) rfl) z5))))
    (z6 (qP (PW.pt (gp (yX (xu (qC (jR (K:=K) rfl) rfl T.jZ PyProof.Rows.boot_isinstance (z0 (qJ (K:=K) rfl (pv 0) rfl) (z0 (rk rfl T.rK PyProof.Rows.boot_int (v:=.ty "int") rfl) z5))))) (wC (xu (qC (jR (K:=K) rfl) rfl T.jZ PyProof.Rows.boot_isinstance (z0 (qJ (K:=K) rfl (pv 0) rfl) (z0 (rk rfl T.JL PyProof.Rows.boot_bool (v:=.ty "bool") rfl) z5)))))))
    (z8 (qw (xm z5))) qr)
   (z8 (qw (xm (z0 qq (z0 (qJ (K:=K) rfl (pv 0) rfl) (z0 (qJ (K:=K) rfl (pv 0) rfl) (z0 (qJ (K:=K) rfl (pv 0) rfl) (z0 (qJ (K:=K) rfl (pv 0) rfl) (z0 (qJ (K:=K) rfl (pv 0) rfl) z5)))))))))) qr)
   (z6 (qP (xu (qC (jR (K:=K) rfl) rfl T.jZ PyProof.Rows.boot_isinstance (z0 (pv 0) (z0 (jD rfl T.Z6 (v:=.ref t.kM) rfl) z5))))
    (z8 (qw (xm (z0 qq (z0 (qJ (K:=K) rfl (pv 0) rfl) (z0 (qJ (K:=K) rfl (pv 0) rfl) (z0 (qJ (K:=K) rfl (pv 0) rfl) (z0 (qJ (K:=K) rfl (pv 0) rfl) z5)))))))) qr)
   (z6 (qP (xu (qC (jR (K:=K) rfl) rfl T.jZ PyProof.Rows.boot_isinstance (z0 (pv 0) (z0 (jD rfl T.u9 (v:=.ref t.jQ) rfl) z5))))
    (z8 (qw (xm (z0 qq (z0 (qJ (K:=K) rfl (pv 0) rfl) (z0 (qJ (K:=K) rfl (pv 0) rfl) (z0 (qJ (K:=K) rfl (pv 0) rfl) (z0 (qJ (K:=K) rfl (pv 0) rfl) z5)))))))) qr)
   (z6 (qP (xu (qC (jR (K:=K) rfl) rfl T.jZ PyProof.Rows.boot_isinstance (z0 (pv 0) (z0 (jD rfl T.dS (v:=.ref t.jo) rfl) z5))))
    (z8 (qw (xm (z0 qq (z0 (qJ (K:=K) rfl (pv 0) rfl) (z0 (qJ (K:=K) rfl (pv 0) rfl) (z0 (qJ (K:=K) rfl (pv 0) rfl) z5))))))) qr)
   (z8 (qw (xm z5))))))),?_⟩
 have ty:wY K H (.ref p) (.ref (yA t k)):=B9 T hA
 rcases hk with rfl | rfl | rfl | rfl
 ·refine⟨_,rfl,_,_,_,_,rfl,.inr ⟨_,rfl⟩,ty,T.dG,_,rfl,mE ?_⟩
  walk_at "rd"
  refine⟨_,_,.type "int",false,rfl,.inl ⟨_,rfl⟩,wY.int _,T.ud,_,rfl,pI ?_⟩
  walk_at "rd"
  intro tp H1 s1 h1 e1
  exact kk tp H1 s1 h1 e1
 ·refine⟨_,rfl,_,_,_,_,rfl,.inr ⟨_,rfl⟩,ty,T.mZ,_,rfl,pI ?_⟩
  refine⟨_,rfl,_,_,_,_,rfl,.inr ⟨_,rfl⟩,ty,T.dB,_,rfl,pI ?_⟩
  refine⟨_,rfl,_,_,_,_,rfl,.inr ⟨_,rfl⟩,ty,T.p5,_,rfl,pI ?_⟩
  refine⟨_,rfl,_,_,_,_,rfl,.inr ⟨_,rfl⟩,ty,T.p3,_,rfl,mE ?_⟩
  walk_at "rd"
  intro tp H1 s1 h1 e1
  exact kk tp H1 s1 h1 e1
 ·refine⟨_,rfl,_,_,_,_,rfl,.inr ⟨_,rfl⟩,ty,T.uh,_,rfl,pI ?_⟩
  refine⟨_,rfl,_,_,_,_,rfl,.inr ⟨_,rfl⟩,ty,T.rS,_,rfl,mE ?_⟩
  walk_at "rd"
  intro tp H1 s1 h1 e1
  exact kk tp H1 s1 h1 e1
 ·refine⟨_,rfl,_,_,_,_,rfl,.inr ⟨_,rfl⟩,ty,T.mJ,_,rfl,pI ?_⟩
  refine⟨_,rfl,_,_,_,_,rfl,.inr ⟨_,rfl⟩,ty,T.dM,_,rfl,pI ?_⟩
  refine⟨_,rfl,_,_,_,_,rfl,.inr ⟨_,rfl⟩,ty,T.p7,_,rfl,mE ?_⟩
  walk_at "rd"
  intro tp H1 s1 h1 e1
  exact kk tp H1 s1 h1 e1
end
theorem tK {K:PySem.W.Frag} {a:Addr} {xs:List V} {E:L2.St→Hp→Prop} {B:V→L2.St→Hp→(L2.St→Hp→Prop)→Prop} {σ:L2.St} {H:Hp} (Pv:Nat→L2.St→Hp→Prop) (h0:Pv 0 σ H) (hl:∀i σ H,i≤xs.length→Pv i σ H→qD K H a xs)
  (hs:∀i x σ H,xs[i]?=some x→Pv i σ H→B x σ H (Pv (i + 1))) (hd:∀σ H,Pv xs.length σ H→E σ H) :
  ∃W:Nat→Nat→L2.St→Hp→Prop,(∃m,W 0 m σ H)∧∀i m σ H,W i m σ H→
   ((K3 K a).stop i H∧E σ H)∨((K3 K a).go i H∧∃N:L2.St→Hp→Prop,(∀σ' H',N σ' H'→∃m',m' < m∧W (i + 1) m' σ' H')∧∀x H',(K3 K a).K1 i H x H'→B x σ H' N):=by
 (refine⟨fun i m σ H=>m=xs.length - i∧i≤xs.length∧Pv i σ H,⟨xs.length,by simp,Nat.zero_le _,h0⟩,?_⟩)
 rintro i m σ H ⟨rfl,hi,p⟩
 have q:=hl i σ H hi p
 by_cases hlt:i < xs.length
 ·(refine .inr ⟨⟨xs,xs[i],q,by simp [hlt]⟩,Pv (i + 1),fun σ' H' p'=>⟨xs.length - (i + 1),by omega,rfl,hlt,p'⟩,fun x H' y=>?_⟩)
  obtain⟨e,y⟩:=y
  subst e
  exact hs i x σ _ (y xs q) p
 ·(have e:i=xs.length:=by omega)
  subst e
  (exact .inl ⟨⟨xs,q,Nat.le_refl _⟩,hd σ H p⟩)
noncomputable def il (ms:List Addr) (H:Hp) (v:V):Ew→Prop
 | .pt n rs=>∃p q,v=.ref p∧H p=some (.tup [.str "part",.str n,.ref q])∧H q=some (.lst (rs.map V.str))∧q∉ms
 | .lt a b=>pG H v (.lt a b)
 | .mu l w a n r=>pG H v (.mu l w a n r)
 | .my l w a=>pG H v (.my l w a)
 | .bn l w a r=>pG H v (.bn l w a r)
 | .pw l w a r=>pG H v (.pw l w a r)
 | .dn=>pG H v .dn
theorem il.ev {ms:List Addr} {H:Hp} {v:V} {e:Ew} (h:il ms H v e):pG H v e:=by
 cases e with
 | pt n rs=>obtain⟨p,q,e,h1,h2,_⟩:=h;exact⟨p,q,e,h1,h2⟩
 | lt a b=>exact h
 | mu l w a n r=>exact h
 | my l w a=>exact h
 | bn l w a r=>exact h
 | pw l w a r=>exact h
 | dn=>exact h
theorem il.sub {ms ms':List Addr} {H:Hp} {v:V} {e:Ew} (h:il ms H v e) (hm:∀b∈ms',b∈ms):il ms' H v e:=by
 cases e with
 | pt n rs=>obtain⟨p,q,e,h1,h2,h3⟩:=h;exact⟨p,q,e,h1,h2,fun z=>h3 (hm q z)⟩
 | lt a b=>exact h
 | mu l w a n r=>exact h
 | my l w a=>exact h
 | bn l w a r=>exact h
 | pw l w a r=>exact h
 | dn=>exact h
theorem il.same {ms:List Addr} {H H':Hp} {v:V} {e:Ew} (h:il ms H v e) (s:qk H H'):il ms H' v e:=by
 cases e with
 | pt n rs=>obtain⟨p,q,e,h1,h2,h3⟩:=h;exact⟨p,q,e,s _ _ h1,s _ _ h2,h3⟩
 | lt a b=>exact pG.same (e:=.lt a b) h s
 | mu l w a n r=>exact pG.same (e:=.mu l w a n r) h s
 | my l w a=>exact pG.same (e:=.my l w a) h s
 | bn l w a r=>exact pG.same (e:=.bn l w a r) h s
 | pw l w a r=>exact pG.same (e:=.pw l w a r) h s
 | dn=>exact pG.same (e:=.dn) h s
theorem il.keeps {l:Addr} {ms:List Addr} {H H':Hp} {v:V} {e:Ew} {xs:List V} (h:il (l :: ms) H v e) (k:Keeps l H H') (el:H l=some (.lst xs)):il (l :: ms) H' v e:=by
 have ne:∀{p:Addr} {ys:List V},H p=some (.tup ys)→H' p=some (.tup ys):=fun q=>k.look q (yV q el (by intro z;cases z))
 cases e with
 | pt n rs=>obtain⟨p,q,e,h1,h2,h3⟩:=h;exact⟨p,q,e,ne h1,k.look h2 (fun z=>h3 (by rw[z];exact List.mem_cons_self)),h3⟩
 | lt a b=>obtain⟨p,e,h⟩:=h;exact⟨p,e,ne h⟩
 | mu l w a n r=>obtain⟨p,e,h⟩:=h;exact⟨p,e,ne h⟩
 | my l w a=>obtain⟨p,e,h⟩:=h;exact⟨p,e,ne h⟩
 | bn l w a r=>obtain⟨p,e,h⟩:=h;exact⟨p,e,ne h⟩
 | pw l w a r=>obtain⟨p,e,h⟩:=h;exact⟨p,e,ne h⟩
 | dn=>obtain⟨p,e,h⟩:=h;exact⟨p,e,ne h⟩
theorem Gj {ms:List Addr} {H:Hp} {tp:Addr} {k:Int} {l u a:Str} {n:Int} {r:Str} (hk:k=0∨k=1∨k=2∨k=3) (h:H tp=some (.tup (BP k l u a n r))):Paired (il ms H) [.ref tp] (jx (.cl k l u a n r)):=by
 rcases hk with rfl | rfl | rfl | rfl
 ·rw[jx];exact .cons ⟨tp,rfl,h⟩ .nil
 ·rw[jx];exact .cons ⟨tp,rfl,h⟩ .nil
 ·rw[jx];exact .cons ⟨tp,rfl,h⟩ .nil
 ·rw[jx];exact .cons ⟨tp,rfl,h⟩ .nil
theorem jb.Q8 {t:jt} {ms:List Addr} {H:Hp}:∀{rs:List Rw} {ys:List V} {i:Nat} {y:V},jb t ms H rs ys→ys[i]?=some y→∃r,rs[i]?=some r∧xP t ms H r y
 | [],ys,i,y,h,e=>by unfold jb at h;subst h;cases e
 | r :: rs,ys,0,y,h,e=>by
  unfold jb at h
  obtain⟨y',ys',rfl,h1,h2⟩:=h
  cases e
  exact⟨r,rfl,h1⟩
 | r :: rs,ys,i + 1,y,h,e=>by
  unfold jb at h
  obtain⟨y',ys',rfl,h1,h2⟩:=h
  exact jb.Q8 (i:=i) h2 e
theorem yZ.Q8 {r:Rw}:∀{rs:List Rw} {i:Nat},yZ rs→rs[i]?=some r→dW r
 | [],i,h,e=>by cases e
 | x :: rs,0,h,e=>by cases e;rw[yZ] at h;exact h.1
 | x :: rs,i + 1,h,e=>by rw[yZ] at h;exact yZ.Q8 (i:=i) h.2 e
theorem rB {r:Rw}:∀{rs:List Rw} {i:Nat},rs[i]?=some r→uY r≤wW rs
 | [],i,e=>by cases e
 | x :: rs,0,e=>by cases e;rw[wW];omega
 | x :: rs,i + 1,e=>by rw[wW];have:=rB (rs:=rs) (i:=i) e;omega
theorem rD {r:Rw} {rs:List Rw} {i:Nat} (h:rs[i]?=some r):qY (rs.take (i + 1))=qY (rs.take i) ++ jx r:=by rw[take_snoc h,yL,cS]
theorem iF {rs:List Rw} (i:Nat):(qY (rs.take i)).length≤(qY rs).length:=by
 have:=congrArg (fun z=>(qY z).length) (List.take_append_drop i rs)
 simp only[yL,List.length_append] at this
 omega
noncomputable def Hc (t:jt):Nat→Sp
 | 0=>fun _ _ _ _=>False
 | n + 1=>fun vs H Q _=>∃(ms:List Addr) (b:Addr) (ys:List V) (rows:List Rw),vs=[.ref b]∧H b=some (.lst ys)∧jb t ms H rows ys∧b∉ms∧wW rows≤n∧yZ rows∧(qY rows).length≤100∧∀l H' ws,qk H H'→H l=none→H' l=some (.lst ws)→Paired (il ms H') ws (qY rows)→Q (.ref l) H'
section
variable {P:Program} {w:World} {K:PySem.W.Frag} {mg:Str→Option Value} {base:Heap} {t:jt}
theorem bA:qo ["_law_rows_here","_law_found_here","_law_row_here"] ["_law_rows_here"] (z4 vy):=⟨rfl,rfl,rfl,by decide +kernel,rfl,by decide +kernel,by decide +kernel⟩
set_option maxHeartbeats 400000 in
theorem eu (T:Txt K mg t):∀n:Nat,qi P w K mg base jk (n + 1) t.yR t.yU ["_law_rows_here"] ((Hc t) n):=by
 intro n
 induction n
 ·exact T.yC.fn.ok bA (fun vs H Q E h=>False.elim h) (fun cdv A outer s H vs Q E hr h=>False.elim h)
 rename_i n ih
 have G_w_clause:qi P w K mg base jk (n + 1) t.bG t.bQ ["_law_row_here"] (nQ t):=(i9 T).mono (by omega)
 have G_w_found:qi P w K mg base jk (n + 1) t.yR t.yU ["_law_rows_here"] ((Hc t) n):=ih
 refine T.yC.fn.ok bA (fun vs H Q E h=>(by first | (obtain⟨rfl,_⟩:=h;rfl) | (obtain⟨_,rfl,_⟩:=h;rfl) | (obtain⟨_,_,rfl,_⟩:=h;rfl) | (obtain⟨_,_,_,rfl,_⟩:=h;rfl) | (obtain⟨_,_,_,_,rfl,_⟩:=h;rfl) | (obtain⟨_,_,_,_,_,rfl,_⟩:=h;rfl) | (obtain⟨_,_,_,_,_,_,rfl,_⟩:=h;rfl) | (obtain⟨_,_,_,_,_,_,_,rfl,_⟩:=h;rfl) | (obtain⟨_,_,_,_,_,_,_,_,rfl,_⟩:=h;rfl) | (obtain⟨_,_,_,_,_,_,_,_,_,rfl,_⟩:=h;rfl) | (obtain⟨_,_,_,_,_,_,_,_,_,_,rfl,_⟩:=h;rfl) | (obtain⟨_,_,_,_,_,_,_,_,_,_,_,rfl,_⟩:=h;rfl) | (obtain⟨_,_,_,_,_,_,_,_,_,_,_,_,rfl,_⟩:=h;rfl) | (obtain⟨_,_,_,_,_,_,_,_,_,_,_,_,_,rfl,_⟩:=h;rfl) | (obtain⟨_,_,_,_,_,_,_,_,_,_,_,_,_,_,rfl,_⟩:=h;rfl) | (obtain⟨_,_,_,_,_,_,_,_,_,_,_,_,_,_,_,rfl,_⟩:=h;rfl) | (obtain⟨_,_,_,_,_,_,_,_,_,_,_,_,_,_,_,_,rfl,_⟩:=h;rfl) | (obtain⟨_,_,_,_,_,_,_,_,_,_,_,_,_,_,_,_,_,rfl,_⟩:=h;rfl) | (obtain⟨_,_,_,_,_,_,_,_,_,_,_,_,_,_,_,_,_,_,rfl,_⟩:=h;rfl) | (obtain⟨_,_,_,_,_,_,_,_,_,_,_,_,_,_,_,_,_,_,_,rfl,_⟩:=h;rfl) | (obtain⟨_,_,_,_,_,_,_,_,_,_,_,_,_,_,_,_,_,_,_,_,rfl,_⟩:=h;rfl) | (obtain⟨_,_,_,_,_,_,_,_,_,_,_,_,_,_,_,_,_,_,_,_,_,rfl,_⟩:=h;rfl) | (obtain⟨_,_,_,_,_,_,_,_,_,_,_,_,_,_,_,_,_,_,_,_,_,_,rfl,_⟩:=h;rfl) | (obtain⟨_,_,_,_,_,_,_,_,_,_,_,_,_,_,_,_,_,_,_,_,_,_,_,rfl,_⟩:=h;rfl))) (fun cdv A outer s H vs Q E hr h=>?_)
 obtain⟨ms,b,ys,rows,rfl,eb,hR,hb,hd,hk,hlen,k⟩:=h
 refine⟨_,(z6 (qP (yX (xu (qC (jR (K:=K) rfl) rfl T.jZ PyProof.Rows.boot_isinstance (z0 (pv 0) (z0 (rk rfl T.yI PyProof.Rows.boot_list (v:=.ty "list") rfl) z5)))))
    (z8 (qw (qF (z0 (xm z5) z5)))) qr)
   (z6 (qZ (i:=1) bA.nd rfl (Or.inl rfl) (qF z5) vQ)
   (z6 (yJ PassesOwn.never rfl (vo (K:=K) rfl (pv 0)) (jC (i:=2) bA.nd rfl (Or.inl rfl))
    (z8 (PS.join (qP (xu (qC (jR (K:=K) rfl) rfl T.jZ PyProof.Rows.boot_isinstance (z0 (pv 2) (z0 (jD rfl T.p9 (v:=.ref t.qH) rfl) z5))))
    (z6 (q0 (ji PySem.F.plainAttrs_list PySem.F.slot_list_append PySem.F.type_list_append jv (pv 1) (z0 (xm (z0 qq (z0 (qJ (K:=K) rfl (pv 2) rfl) (z0 (qJ (K:=K) rfl (pv 2) rfl) z5)))) z5)))
   (z6 (q0 (ji PySem.F.plainAttrs_list PySem.F.slot_list_extend PySem.F.type_list_extend tT (pv 1) (z0 (qm G_w_found hr rfl T.yC.mg T.yC.fn.kp T.yC.bd .nil qQ (z0 (qJ (K:=K) rfl (pv 2) rfl) z5)) z5)))
   (z8 (q0 (ji PySem.F.plainAttrs_list PySem.F.slot_list_append PySem.F.type_list_append jv (pv 1) (z0 (xm (z0 qq z5)) z5)))))) (z8 (PS.join (qP (xu (qC (jR (K:=K) rfl) rfl T.jZ PyProof.Rows.boot_isinstance (z0 (pv 2) (z0 (jD rfl T.Z7 (v:=.ref t.kZ) rfl) z5))))
    (z8 (q0 (ji PySem.F.plainAttrs_list PySem.F.slot_list_append PySem.F.type_list_append jv (pv 1) (z0 (xm (z0 qq (z0 (qJ (K:=K) rfl (pv 2) rfl) (z0 (qJ (K:=K) rfl (pv 2) rfl) z5)))) z5)))) (z8 (q0 (ji PySem.F.plainAttrs_list PySem.F.slot_list_append PySem.F.type_list_append jv (pv 1) (z0 (qm G_w_clause hr rfl T.fG.mg T.fG.fn.kp T.fG.bd .nil qQ (z0 (pv 2) z5)) z5)))))))))))
   (z8 (qw (pv 1)))))),?_⟩
 walk_at "rd"
 intro l H1 s1 hl e1
 have eb1:=s1 _ _ eb
 walk_at "rd"
 have hml:∀c∈l :: ms,c∈ms∨H c=none:=fun c h=>(List.mem_cons.mp h).elim (fun z=>.inr (by rw[z];exact hl)) .inl
 refine tK (K:=K) (a:=b) (xs:=ys) (fun i σ H'=>(∃(ws:List V) (v2:Option V),σ=[some (.ref b),some (.ref l),v2]∧qk H H'∧H' l=some (.lst ws)∧Paired (il (l :: ms) H') ws (qY (rows.take i)))∨False)
  ?_ ?_ ?_ ?_
 ·exact .inl ⟨[],none,rfl,s1,e1,by rw[List.take_zero,qY];exact .nil⟩
 ·intro i σ H' _ q
  obtain⟨_,_,_,z,_⟩:=q.resolve_right (fun z=>z)
  exact qD.of (z _ _ eb)
 ·intro i y σ H2 hi q
  obtain⟨ws,v2,rfl,s2,e2,hP⟩:=q.resolve_right (fun z=>z)
  clear q
  obtain⟨r,hr,hRw⟩:=jb.Q8 hR hi
  have hk1:=hk.Q8 hr
  have hd1:=rB hr
  have hfl:=rD hr
  have hfn:=iF (rs:=rows) (i + 1)
  have hRw2:xP t (l :: ms) H2 r y:=hRw.move (Fm.of s2) hml
  have wl:=Paired.length hP
  refine⟨fun σ' H'=>(∃(ws:List V),σ'=[some (.ref b),some (.ref l),some y]∧qk H H'∧H' l=some (.lst ws)∧Paired (il (l :: ms) H') ws (qY (rows.take i) ++ jx r))∨False,?_,?_⟩
  ·rw[hfl,List.length_append] at hfn
   cases r with
   | lt n v=>
    unfold xP at hRw2
    obtain⟨p,rfl,hp,hA⟩:=hRw2
    have ty:=P4 T hA
    refine⟨_,rfl,_,_,_,_,rfl,.inr ⟨_,rfl⟩,ty,T.um,_,rfl,pI ?_⟩
    refine⟨_,?_,fun _ _ z=>z⟩
    refine⟨_,rfl,_,_,_,_,rfl,.inr ⟨_,rfl⟩,ty,T.rN,_,rfl,mE ?_⟩
    refine⟨_,rfl,.inl ⟨rfl,_,qD.of e2⟩,?_⟩
    refine⟨_,rfl,_,hA.fn T,_,rfl,_,hA.fv T,qj (by show 3≤1000;decide),?_⟩
    intro tp H5 s5 h5 e5
    rw[jx] at hfn ⊢
    have hP5:=Paired.imp' (fun _ _ z=>z.same s5) hP
    refine⟨l,_,_,rfl,rfl,s5 _ _ e2,qj (by omega),?_⟩
    intro H6 k6 e6
    exact .inl ⟨_,rfl,k6.put (s2.trans s5) hl,e6,Paired.imp' (fun _ _ z=>z.keeps k6 (s5 _ _ e2)) (Paired.app hP5 (.cons ⟨tp,rfl,e5⟩ .nil))⟩
   | cl k' l' u a' n' r'=>
    unfold xP at hRw2
    obtain⟨p,rfl,hp,hA⟩:=hRw2
    rw[dW] at hk1
    have ty:wY K H2 (.ref p) (.ref (yA t k')):=B9 T hA
    have kp:PySem.W.kitOne K (.ref (yA t k')) (JE (.ref t.qH))=some false:=by
     rcases hk1 with rfl | rfl | rfl | rfl
     ·exact T.dH
     ·exact T.mQ
     ·exact T.ub
     ·exact T.mX
    have kl:PySem.W.kitOne K (.ref (yA t k')) (JE (.ref t.kZ))=some false:=by
     rcases hk1 with rfl | rfl | rfl | rfl
     ·exact T.uf
     ·exact T.dP
     ·exact T.rT
     ·exact T.dD
    have hf1:1≤(jx (.cl k' l' u a' n' r')).length:=by
     rcases hk1 with rfl | rfl | rfl | rfl<;>(rw[jx];simp)
    refine⟨_,rfl,_,_,_,_,rfl,.inr ⟨_,rfl⟩,ty,kp,_,rfl,pI ?_⟩
    refine⟨_,?_,fun _ _ z=>z⟩
    refine⟨_,rfl,_,_,_,_,rfl,.inr ⟨_,rfl⟩,ty,kl,_,rfl,pI ?_⟩
    refine⟨_,rfl,.inl ⟨rfl,_,qD.of e2⟩,_,rfl,p,k',l',u,a',n',r',rfl,hA,hk1,fun tp H3 s3 h3 e3=>?_⟩
    refine⟨l,_,_,rfl,rfl,s3 _ _ e2,qj (by omega),?_⟩
    intro H4 k4 e4
    exact .inl ⟨_,rfl,k4.put (s2.trans s3) hl,e4,Paired.imp' (fun _ _ z=>z.keeps k4 (s3 _ _ e2)) (Paired.app (Paired.imp' (fun _ _ z=>z.same s3) hP) (Gj hk1 e3))⟩
   | pt n' rs rws=>
    unfold xP at hRw2
    obtain⟨p,dx,a1,b1,ys1,rfl,hp,ha,hb1,ep,ea,eb',hR'⟩:=hRw2
    rw[uY] at hd1
    rw[dW] at hk1
    have ty:wY K H2 (.ref p) (.ref t.qH):=wY.ins ep T.kJ T.ik.1 T.om T.Qj T.ik.2
    have ee:qY (rows.take i) ++ jx (.pt n' rs rws)=((qY (rows.take i) ++ [.pt n' rs]) ++ qY rws) ++ [.dn]:=by rw[jx];simp
    have hf1:(jx (.pt n' rs rws)).length=(qY rws).length + 2:=by rw[jx];simp
    rw[ee]
    have nl:∀{c:Addr},c∉l :: ms→c≠l:=fun h z=>h (by rw[z];exact List.mem_cons_self)
    refine⟨_,rfl,_,_,_,_,rfl,.inr ⟨_,rfl⟩,ty,T.dF,_,rfl,mE ?_⟩
    refine⟨_,rfl,.inl ⟨rfl,_,qD.of e2⟩,?_⟩
    refine⟨_,rfl,_,Wg T ep,_,rfl,_,Xz T ep,qj (by show 3≤1000;decide),?_⟩
    intro tp H5 s5 h5 e5
    refine⟨l,_,_,rfl,rfl,s5 _ _ e2,qj (by omega),?_⟩
    intro H6 k6 e6
    have P6:Paired (il (l :: ms) H6) (ws ++ [.ref tp]) (qY (rows.take i) ++ [.pt n' rs]):=Paired.imp' (fun _ _ z=>z.keeps k6 (s5 _ _ e2)) (Paired.app (Paired.imp' (fun _ _ z=>z.same s5) hP) (.cons ⟨tp,a1,rfl,e5,s5 _ _ ea,ha⟩ .nil))
    have fm6:Fm (l :: ms) H2 H6:=fun c o hc e=>k6.look (s5 _ _ e) (nl hc)
    have ep6:=fm6 _ _ hp ep
    have eb6:=fm6 _ _ hb1 eb'
    have hR6:jb t (l :: ms) H6 rws ys1:=hR'.move fm6 fun c h=>.inl h
    refine⟨_,rfl,.inl ⟨rfl,_,qD.of e6⟩,?_⟩
    refine⟨_,rfl,_,Xq T ep6,?_⟩
    cases n with
    | zero=>omega
    | succ m=>
     refine⟨l :: ms,b1,ys1,rws,rfl,eb6,hR6,hb1,by omega,hk1,by omega,fun l2 H7 ws2 s7 hl2 e7 hP7=>?_⟩
     have w2:=Paired.length hP7
     refine⟨l,l2,_,_,rfl,rfl,s7 _ _ e6,e7,qj (by rw[List.length_append];simp only[List.length_cons,List.length_nil];omega),?_⟩
     intro H8 k8 e8
     have P8:Paired (il (l :: ms) H8) ((ws ++ [.ref tp]) ++ ws2) ((qY (rows.take i) ++ [.pt n' rs]) ++ qY rws):=Paired.imp' (fun _ _ z=>z.keeps k8 (s7 _ _ e6)) (Paired.app (Paired.imp' (fun _ _ z=>z.same s7) P6) hP7)
     refine⟨_,rfl,.inl ⟨rfl,_,qD.of e8⟩,?_⟩
     refine⟨qj (by show 1≤1000;decide),?_⟩
     intro tq H9 s9 h9 e9
     refine⟨l,_,_,rfl,rfl,s9 _ _ e8,qj (by simp only[List.length_append,List.length_cons,List.length_nil];omega),?_⟩
     intro H10 k10 e10
     have sA:qk H H10:=k10.put ((k8.put ((k6.put (s2.trans s5) hl).trans s7) hl).trans s9) hl
     exact .inl ⟨_,rfl,sA,e10,Paired.imp' (fun _ _ z=>z.keeps k10 (s9 _ _ e8)) (Paired.app (Paired.imp' (fun _ _ z=>z.same s9) P8) (.cons ⟨tq,rfl,e9⟩ .nil))⟩
  rintro σ' H6 (⟨ws',rfl,s6,e6,hP6⟩ | ⟨⟨⟩⟩)
  rw[←hfl] at hP6
  exact .inl ⟨_,_,rfl,s6,e6,hP6⟩
 ·intro σ H2 q
  obtain⟨ws,v2,rfl,s2,e2,hP⟩:=q.resolve_right (fun z=>z)
  have hlr:=hR.len
  rw[hlr,List.take_length] at hP
  walk_at "rd"
  exact k l H2 ws s2 hl e2 (Paired.imp' (fun _ _ z=>z.sub fun b hb=>List.mem_cons_of_mem _ hb) hP)
theorem Zq (T:Txt K mg t):qi P w K mg base jk 8 t.yR t.yU ["_law_rows_here"] ((Hc t) 7):=eu T 7
end
noncomputable def cL:Ew→PyData
 | .lt a b=>.tuple [.str "let",.str a,.str b]
 | .mu l w a n r=>.tuple [.str "must",.str l,.str w,.str a,.int n,.str r]
 | .my l w a=>.tuple [.str "may",.str l,.str w,.str a]
 | .bn l w a r=>.tuple [.str "ban",.str l,.str w,.str a,.str r]
 | .pw l w a r=>.tuple [.str "power",.str l,.str w,.str a,.str r]
 | .pt n rs=>.tuple [.str "part",.str n,.list (rs.map PyData.str)]
 | .dn=>.tuple [.str "done"]
theorem pG.rd {K:PySem.W.Frag} {H:Hp} {v:V} {e:Ew} (h:pG H v e):dg K H v (cL e):=by
 cases e with
 | pt n rs=>obtain⟨p,q,rfl,h1,h2⟩:=h;exact .tup (yy.of h1) (.cons (.str _) (.cons (.str _) (.cons (.lst (qD.of h2) (yv.strs _)) .nil)))
 | lt a b=>obtain⟨p,rfl,h⟩:=h;exact .tup (yy.of h) (.cons (.str _) (.cons (.str _) (.cons (.str _) .nil)))
 | mu l w a n r=>obtain⟨p,rfl,h⟩:=h;exact .tup (yy.of h) (.cons (.str _) (.cons (.str _) (.cons (.str _) (.cons (.str _) (.cons (.int _) (.cons (.str _) .nil))))))
 | my l w a=>obtain⟨p,rfl,h⟩:=h;exact .tup (yy.of h) (.cons (.str _) (.cons (.str _) (.cons (.str _) (.cons (.str _) .nil))))
 | bn l w a r=>obtain⟨p,rfl,h⟩:=h;exact .tup (yy.of h) (.cons (.str _) (.cons (.str _) (.cons (.str _) (.cons (.str _) (.cons (.str _) .nil)))))
 | pw l w a r=>obtain⟨p,rfl,h⟩:=h;exact .tup (yy.of h) (.cons (.str _) (.cons (.str _) (.cons (.str _) (.cons (.str _) (.cons (.str _) .nil)))))
 | dn=>obtain⟨p,rfl,h⟩:=h;exact .tup (yy.of h) (.cons (.str _) .nil)
theorem aV {K:PySem.W.Frag} {H:Hp}:∀{ws:List V} {evs:List Ew},Paired (pG H) ws evs→yv K H ws (evs.map cL)
 | _,_,.nil=>.nil
 | _,_,.cons h t=>.cons h.rd (aV t)
theorem uc:∀x∈(["let","must","may","ban","power","part","done","any","calm","sore","end"]:List Str),PyData.strOk x=true:=by decide +kernel
theorem tI {x:Str} (h:qK x=true):PyData.strOk x=true:=(cq h).ok
theorem BW {x:Str} (h:af x):PyData.strOk x=true:=by
 rcases h with h | rfl
 ·exact tI h
 ·exact uc _ (by simp)
theorem Vw {e:Ew} (h:e.ok):PyData.canLay0 (cL e)=true∧PyData.depth (cL e)≤2:=by
 cases e with
 | lt a b=>simp [PyData.canLay0,PyData.canLayAll0,PyData.depth,PyData.depthAll,cL,tI h.1,tI h.2,uc]
 | mu l w a n r=>simp [PyData.canLay0,PyData.canLayAll0,PyData.depth,PyData.depthAll,cL,tI h.1,tI h.2.1,tI h.2.2.1,tI h.2.2.2.2.2,uc]
 | my l w a=>simp [PyData.canLay0,PyData.canLayAll0,PyData.depth,PyData.depthAll,cL,tI h.1,BW h.2.1,tI h.2.2,uc]
 | bn l w a r=>simp [PyData.canLay0,PyData.canLayAll0,PyData.depth,PyData.depthAll,cL,tI h.1,BW h.2.1,tI h.2.2.1,tI h.2.2.2,uc]
 | pw l w a r=>simp [PyData.canLay0,PyData.canLayAll0,PyData.depth,PyData.depthAll,cL,tI h.1,BW h.2.1,tI h.2.2.1,tI h.2.2.2,uc]
 | pt n rs=>
  have q:=pF rs fun x hx=>tI (h.2.1 x hx)
  simp [PyData.canLay0,PyData.canLayAll0,PyData.depth,PyData.depthAll,cL,tI h.1,q.1,q.2,uc]
 | dn=>simp [PyData.canLay0,PyData.canLayAll0,PyData.depth,PyData.depthAll,cL,uc]
theorem ZT:∀{evs:List Ew},(∀e∈evs,e.ok)→PyData.canLayAll0 (evs.map cL)=true∧PyData.depthAll (evs.map cL)≤2
 | [],_=>⟨rfl,Nat.zero_le _⟩
 | e :: r,h=>by
  have q:=ZT fun x hx=>h x (List.mem_cons_of_mem _ hx)
  have z:=Vw (h e List.mem_cons_self)
  rw[List.map_cons,PyData.canLayAll0,PyData.depthAll,q.1,z.1]
  exact⟨rfl,by omega⟩
theorem rF {evs:List Ew} (h:∀e∈evs,e.ok):SeqAt.shaped (.list (evs.map cL))=true:=by
 have q:=ZT h
 unfold SeqAt.shaped
 rw[PyData.canLay0,PyData.depth,q.1]
 simp only[Bool.true_and]
 (exact decide_eq_true (by omega))
theorem Vv (e:Ew):PyData.eqv (cL e) (cL e)=true:=by
 cases e with
 | pt n rs=>
  have q:=pU rs rs
  simp [PyData.eqv,PyData.eqvAll,cL,q]
 | lt a b=>simp [PyData.eqv,PyData.eqvAll,cL]
 | mu l w a n r=>simp [PyData.eqv,PyData.eqvAll,cL]
 | my l w a=>simp [PyData.eqv,PyData.eqvAll,cL]
 | bn l w a r=>simp [PyData.eqv,PyData.eqvAll,cL]
 | pw l w a r=>simp [PyData.eqv,PyData.eqvAll,cL]
 | dn=>simp [PyData.eqv,PyData.eqvAll,cL]
theorem ZS:∀(evs:List Ew),PyData.eqvAll (evs.map cL) (evs.map cL)=true
 | []=>by simp [PyData.eqvAll]
 | e :: r=>by rw[List.map_cons,PyData.eqvAll,Vv,ZS r];rfl
theorem Qh:∀{qR:List (Str × Str)},(∀mn∈qR,dh mn)→PyData.canLayAll0 (qR.map nh)=true∧PyData.depthAll (qR.map nh)≤1
 | [],_=>⟨rfl,Nat.zero_le _⟩
 | mn :: r,h=>by
  have q:=Qh fun x hx=>h x (List.mem_cons_of_mem _ hx)
  have hm:=h mn List.mem_cons_self
  have k1:∀x∈xo,PyData.strOk x=true:=by decide +kernel
  have z:PyData.canLay0 (nh mn)=true∧PyData.depth (nh mn)≤1:=by
   simp [PyData.canLay0,PyData.canLayAll0,PyData.depth,PyData.depthAll,nh,k1 _ hm.1,tI hm.2]
  rw[List.map_cons,PyData.canLayAll0,PyData.depthAll,q.1,z.1]
  exact⟨rfl,by omega⟩
theorem Zh {qR:List (Str × Str)} (h:∀mn∈qR,dh mn):SeqAt.shaped (.list (qR.map nh))=true:=by
 have q:=Qh h
 unfold SeqAt.shaped
 rw[PyData.canLay0,PyData.depth,q.1]
 simp only[Bool.true_and]
 (exact decide_eq_true (by omega))
theorem Qg:∀(qR:List (Str × Str)),PyData.eqvAll (qR.map nh) (qR.map nh)=true
 | []=>by simp [PyData.eqvAll]
 | mn :: r=>by
  have z:PyData.eqv (nh mn) (nh mn)=true:=by simp [PyData.eqv,PyData.eqvAll,nh]
  rw[List.map_cons,PyData.eqvAll,z,Qg r];rfl
section
variable {P:Program} {w:World} {K:PySem.W.Frag} {mg:Str→Option Value} {base:Heap} {t:jt}
end
noncomputable def pJ (k:Int) (a:Str) (n:Int) (r:Str):Str:=
 if k=0 then ("must " : Str) ++ a ++ (" by " : Str) ++ Str.ofString (toString n) ++ (" else " : Str) ++ r
 else if k=1 then ("may " : Str) ++ a
 else if k=2 then ("may not " : Str) ++ a ++ (" else " : Str) ++ r
 else ("by " : Str) ++ a ++ (" to " : Str) ++ r
noncomputable def Bz (k:Int) (l u a:Str) (n:Int) (r:Str):Prop:=(k=0∨k=1∨k=2∨k=3)∧∀e∈jx (.cl k l u a n r),e.ok
theorem rO:("must " : Str)=("must" : Str) ++ (" " : Str)∧(" by " : Str)=(" " : Str) ++ (("by" : Str) ++ (" " : Str))∧(" else " : Str)=(" " : Str) ++ (("else" : Str) ++ (" " : Str))∧("may not " : Str)=("may" : Str) ++ ((" " : Str) ++ (("not" : Str) ++ (" " : Str)))∧("by " : Str)=("by" : Str) ++ (" " : Str)∧(" to " : Str)=(" " : Str) ++ (("to" : Str) ++ (" " : Str)):=by decide +kernel
theorem G8 (a s r:Str):Txt.join (" " : Str) ["must",a,"by",s,"else",r]=("must " : Str) ++ a ++ (" by " : Str) ++ s ++ (" else " : Str) ++ r:=by
 rw[join_eq,rO.1,rO.2.1,rO.2.2.1]
 simp only[L2.pA,L2.join_one,wU]
theorem G9 (a r:Str):Txt.join (" " : Str) ["may","not",a,"else",r]=("may not " : Str) ++ a ++ (" else " : Str) ++ r:=by
 rw[join_eq,rO.2.2.1,rO.2.2.2.1]
 simp only[L2.pA,L2.join_one,wU]
theorem tail3 (a r:Str):Txt.join (" " : Str) ["by",a,"to",r]=("by " : Str) ++ a ++ (" to " : Str) ++ r:=by
 rw[join_eq,rO.2.2.2.2.1,rO.2.2.2.2.2]
 simp only[L2.pA,L2.join_one,wU]
structure Px (k:Int) (l u a:Str) (n:Int) (r:Str) (e:Ew):Prop where
 fl:jx (.cl k l u a n r)=[e]
 ok:e.ok
 ll:l.length≤8
 lu:u.length≤8
 la:a.length≤8
 lr:k≠1→r.length≤8
 n1:k=0→1≤n∧n < 10 ^ 20
 row:l ++ (" " : Str) ++ u ++ (" " : Str) ++ pJ k a n r=e.row
 lt:(pJ k a n r).length≤90
 ne:pJ k a n r≠""
theorem Qa {x y:Str} (h:1≤x.length) (e:y=x):y≠"":=fun z=>by
 have:("" : Str).length=0:=by decide +kernel
 rw[←e,z,this] at h
 omega
theorem YD:("must " : Str).length=5∧(" by " : Str).length=4∧(" else " : Str).length=6∧("may " : Str).length=4∧("may not " : Str).length=8∧("by " : Str).length=3∧(" to " : Str).length=4:=by decide +kernel
theorem Gx {k:Int} {l u a:Str} {n:Int} {r:Str} (h:Bz k l u a n r):∃e,Px k l u a n r e:=by
 obtain⟨hk,ho⟩:=h
 obtain⟨e1,e2,e3,e4,e5,e6,e7⟩:=YD
 rcases hk with rfl | rfl | rfl | rfl
 ·have f:jx (.cl 0 l u a n r)=[.mu l u a n r]:=by rw[jx,if_pos rfl]
  have o:=ho (.mu l u a n r) (by rw[f];simp)
  have q:pJ 0 a n r=("must " : Str) ++ a ++ (" by " : Str) ++ Str.ofString (toString n) ++ (" else " : Str) ++ r:=rfl
  have la:=qG o.2.2.1;have lr:=qG o.2.2.2.2.2;have ln:=(cx o.2.2.2.1 o.2.2.2.2.1).2.2.2
  exact⟨_,f,o,qG o.1,qG o.2.1,la,fun _=>lr,fun _=>⟨o.2.2.2.1,o.2.2.2.2.1⟩,by rw[q];have:=X8 l u a (Str.ofString (toString n)) r;simp only[wU] at this ⊢;exact this,by rw[q];simp only[jW];omega,Qa (x:=pJ 0 a n r) (by rw[q];simp only[jW];omega) rfl⟩
 ·have f:jx (.cl 1 l u a n r)=[.my l u a]:=by rw[jx,if_neg (by decide),if_pos rfl]
  have o:=ho (.my l u a) (by rw[f];simp)
  have q:pJ 1 a n r=("may " : Str) ++ a:=rfl
  have la:=qG o.2.2
  exact⟨_,f,o,qG o.1,mj o.2.1,la,fun z=>absurd rfl z,fun z=>absurd z (by decide),by rw[q];have:=X9 l u a;simp only[wU] at this ⊢;exact this,by rw[q];simp only[jW];omega,Qa (x:=pJ 1 a n r) (by rw[q];simp only[jW];omega) rfl⟩
 ·have f:jx (.cl 2 l u a n r)=[.bn l u a r]:=by rw[jx,if_neg (by decide),if_neg (by decide),if_pos rfl]
  have o:=ho (.bn l u a r) (by rw[f];simp)
  have q:pJ 2 a n r=("may not " : Str) ++ a ++ (" else " : Str) ++ r:=rfl
  have la:=qG o.2.2.1;have lr:=qG o.2.2.2
  exact⟨_,f,o,qG o.1,mj o.2.1,la,fun _=>lr,fun z=>absurd z (by decide),by rw[q];have:=X6 l u a r;simp only[wU] at this ⊢;exact this,by rw[q];simp only[jW];omega,Qa (x:=pJ 2 a n r) (by rw[q];simp only[jW];omega) rfl⟩
 ·have f:jx (.cl 3 l u a n r)=[.pw l u a r]:=by rw[jx,if_neg (by decide),if_neg (by decide),if_neg (by decide)]
  have o:=ho (.pw l u a r) (by rw[f];simp)
  have q:pJ 3 a n r=("by " : Str) ++ a ++ (" to " : Str) ++ r:=rfl
  have la:=qG o.2.2.1;have lr:=qG o.2.2.2
  exact⟨_,f,o,qG o.1,mj o.2.1,la,fun _=>lr,fun z=>absurd z (by decide),by rw[q];have:=Kz l u a r;simp only[wU] at this ⊢;exact this,by rw[q];simp only[jW];omega,Qa (x:=pJ 3 a n r) (by rw[q];simp only[jW];omega) rfl⟩
noncomputable def Ke (t:jt) (k:Int):Sp:=fun vs H Q _=>∃(p:Addr) (l u a:Str) (n:Int) (r:Str),vs=[.ref p]∧At t H p k l u a n r∧Bz k l u a n r∧∀H',qk H H'→Q (.str (pJ k a n r)) H'
noncomputable def GD (t:jt) (k:Int):Sp:=fun vs H Q _=>∃(p:Addr) (l u a:Str) (n:Int) (r:Str),vs=[.ref p]∧At t H p k l u a n r∧Bz k l u a n r∧∀q H',qk H H'→H q=none→H' q=some (.lst ((jx (.cl k l u a n r)).map fun e=>V.str e.row))→Q (.ref q) H'
noncomputable def GR (t:jt):Sp:=fun vs H Q _=>∃(p:Addr) (n v:Str),vs=[.ref p]∧V5 t H p n v∧(Ew.lt n v).ok∧∀q H',qk H H'→H q=none→H' q=some (.lst ((jx (.lt n v)).map fun e=>V.str e.row))→Q (.ref q) H'
section
variable {P:Program} {w:World} {K:PySem.W.Frag} {mg:Str→Option Value} {base:Heap} {t:jt}
theorem sT:qo ["self"] ["self"] (z4 j9):=⟨rfl,rfl,rfl,by decide +kernel,rfl,by decide +kernel,by decide +kernel⟩
set_option maxHeartbeats 400000 in
theorem sU (T:Txt K mg t):qi P w K mg base jk 1 t.yH t.bo ["self"] (Ke t 1):=by
 refine T.mR.fn.ok sT (fun vs H Q E h=>(by obtain⟨_,_,_,_,_,_,rfl,_⟩:=h;rfl)) (fun cdv A outer s H vs Q E hr h=>?_)
 obtain⟨p,l,u,a,n,r,rfl,hA,c,k⟩:=h
 refine⟨_,(z8 (qw (qg qt qq (qJ (K:=K) rfl (pv 0) rfl)))),?_⟩
 obtain⟨e,z⟩:=Gx c
 have la:=z.la
 walk_at "rd"
 exact k H (qk.refl H)
theorem oM:qo ["self"] ["self"] (z4 xQ):=⟨rfl,rfl,rfl,by decide +kernel,rfl,by decide +kernel,by decide +kernel⟩
set_option maxHeartbeats 400000 in
theorem oo (T:Txt K mg t):qi P w K mg base jk 1 t.gJ t.pD ["self"] (Ke t 0):=by
 refine T.cD.fn.ok oM (fun vs H Q E h=>(by obtain⟨_,_,_,_,_,_,rfl,_⟩:=h;rfl)) (fun cdv A outer s H vs Q E hr h=>?_)
 obtain⟨p,l,u,a,n,r,rfl,hA,c,k⟩:=h
 refine⟨_,(z8 (qw (ji PySem.F.plainAttrs_str PySem.F.slot_str_join PySem.F.type_str_join (kc (K:=K) rfl) qq (z0 (qF (z0 qq (z0 (qJ (K:=K) rfl (pv 0) rfl) (z0 qq (z0 (jn dm rfl T.ZH PyProof.Rows.boot_str (z0 (qJ (K:=K) rfl (pv 0) rfl) z5)) (z0 qq (z0 (qJ (K:=K) rfl (pv 0) rfl) z5))))))) z5)))),?_⟩
 obtain⟨e,z⟩:=Gx c
 have la:=z.la
 have lr:=z.lr (by decide)
 obtain⟨g1,g2⟩:=z.n1 rfl
 have ln:=(cx g1 g2).2.2.2
 walk_at "rd"
 refine⟨tU (by omega) (by omega),?_⟩
 walk_at "rd"
 intro lj H1 s1 hlj e1
 refine⟨_,lj,["must",a,"by",Str.ofString (toString n),"else",r],rfl,rfl,qD.of e1,?_,?_⟩
 ·have e:("must" : Str).length=4∧("by" : Str).length=2∧("else" : Str).length=4∧(" " : Str).length=1:=by decide +kernel
  simp only[List.map_cons,List.map_nil,List.sum_cons,List.sum_nil,List.length_cons,List.length_nil]
  omega
 rw[G8]
 exact k H1 s1
theorem eF:qo ["self"] ["self"] (z4 kj):=⟨rfl,rfl,rfl,by decide +kernel,rfl,by decide +kernel,by decide +kernel⟩
set_option maxHeartbeats 400000 in
theorem i7 (T:Txt K mg t):qi P w K mg base jk 1 t.bW t.mN ["self"] (Ke t 2):=by
 refine T.rQ.fn.ok eF (fun vs H Q E h=>(by obtain⟨_,_,_,_,_,_,rfl,_⟩:=h;rfl)) (fun cdv A outer s H vs Q E hr h=>?_)
 obtain⟨p,l,u,a,n,r,rfl,hA,c,k⟩:=h
 refine⟨_,(z8 (qw (ji PySem.F.plainAttrs_str PySem.F.slot_str_join PySem.F.type_str_join (kc (K:=K) rfl) qq (z0 (qF (z0 qq (z0 qq (z0 (qJ (K:=K) rfl (pv 0) rfl) (z0 qq (z0 (qJ (K:=K) rfl (pv 0) rfl) z5)))))) z5)))),?_⟩
 obtain⟨e,z⟩:=Gx c
 have la:=z.la
 have lr:=z.lr (by decide)
 walk_at "rd"
 intro lj H1 s1 hlj e1
 refine⟨_,lj,["may","not",a,"else",r],rfl,rfl,qD.of e1,?_,?_⟩
 ·have e:("may" : Str).length=3∧("not" : Str).length=3∧("else" : Str).length=4∧(" " : Str).length=1:=by decide +kernel
  simp only[List.map_cons,List.map_nil,List.sum_cons,List.sum_nil,List.length_cons,List.length_nil]
  omega
 rw[G9]
 exact k H1 s1
theorem sO:qo ["self"] ["self"] (z4 xj):=⟨rfl,rfl,rfl,by decide +kernel,rfl,by decide +kernel,by decide +kernel⟩
set_option maxHeartbeats 400000 in
theorem sR (T:Txt K mg t):qi P w K mg base jk 1 t.yB t.ba ["self"] (Ke t 3):=by
 refine T.mL.fn.ok sO (fun vs H Q E h=>(by obtain⟨_,_,_,_,_,_,rfl,_⟩:=h;rfl)) (fun cdv A outer s H vs Q E hr h=>?_)
 obtain⟨p,l,u,a,n,r,rfl,hA,c,k⟩:=h
 refine⟨_,(z8 (qw (ji PySem.F.plainAttrs_str PySem.F.slot_str_join PySem.F.type_str_join (kc (K:=K) rfl) qq (z0 (qF (z0 qq (z0 (qJ (K:=K) rfl (pv 0) rfl) (z0 qq (z0 (qJ (K:=K) rfl (pv 0) rfl) z5))))) z5)))),?_⟩
 obtain⟨e,z⟩:=Gx c
 have la:=z.la
 have lr:=z.lr (by decide)
 walk_at "rd"
 intro lj H1 s1 hlj e1
 refine⟨_,lj,["by",a,"to",r],rfl,rfl,qD.of e1,?_,?_⟩
 ·have e:("by" : Str).length=2∧("to" : Str).length=2∧(" " : Str).length=1:=by decide +kernel
  simp only[List.map_cons,List.map_nil,List.sum_cons,List.sum_nil,List.length_cons,List.length_nil]
  omega
 rw[tail3]
 exact k H1 s1
theorem VA (T:Txt K mg t) {k:Int} (hk:k=0∨k=1∨k=2∨k=3) (m:Nat):xB P w K mg base jk (m + 1) (yA t k) "tail" (Ke t k):=by
 rcases hk with rfl | rfl | rfl | rfl
 ·exact .mk' T.dE (oo T) T.cD.bd (by omega)
 ·exact .mk' T.mV (sU T) T.mR.bd (by omega)
 ·exact .mk' T.ur (i7 T) T.rQ.bd (by omega)
 ·exact .mk' T.mW (sR T) T.mL.bd (by omega)
theorem iK (T:Txt K mg t) {k:Int} (hk:k=0∨k=1∨k=2∨k=3):qi P w K mg base jk 2 t.jl t.vX ["self"] (GD t k):=by
 refine T.xh.fn.ok (⟨rfl,rfl,rfl,by decide +kernel,rfl,by decide +kernel,by decide +kernel⟩:qo ["self","row","tail"] ["self"] (z4 qL)) (fun vs H Q E h=>by obtain⟨_,_,_,_,_,_,rfl,_⟩:=h;rfl) (fun cdv A outer s H vs Q E hr h=>?_)
 obtain⟨p,l,u,a,n,r,rfl,hA,c,kk⟩:=h
 have sc_Clause_rows_told:qo ["self","row","tail"] ["self"] (z4 qL):=⟨rfl,rfl,rfl,by decide +kernel,rfl,by decide +kernel,by decide +kernel⟩
 refine⟨_,(z6 (qZ (i:=1) sc_Clause_rows_told.nd rfl (Or.inl rfl) (qg qt (qg qt (qJ (K:=K) rfl (pv 0) rfl) qq) (qJ (K:=K) rfl (pv 0) rfl)))
   (z6 (qZ (i:=2) sc_Clause_rows_told.nd rfl (Or.inl rfl) (ki hr (pv 0)))
   (z6 (qP (ql jd (pv 2) qq (qe _))
    (z8 (qw (qF (z0 (pv 1) z5)))) qr)
   (z8 (qw (qF (z0 (qg qt (qg qt (pv 1) qq) (pv 2)) z5))))))),?_⟩
 obtain⟨e,z⟩:=Gx c
 have ll:=z.ll
 have lu:=z.lu
 have lt:=z.lt
 have e1:(Str.ofString " ").length=1:=by decide +kernel
 walk_at "rd"
 obtain⟨dx,fs,m1,m2,m3⟩:=At.me T hA (m:="tail") (by decide +kernel)
 refine⟨p,_,dx,fs,rfl,m1,m2,m3,_,VA T hk 0,?_⟩
 refine⟨p,l,u,a,n,r,rfl,hA,c,fun H1 s1=>?_⟩
 walk_at "rd"
 refine jH (fun h=>?_) (fun h=>?_)
 ·exact absurd (V.str.inj (of_decide_eq_true h)) z.ne
 ·walk_at "rd"
  intro q H2 s2 hq e2
  refine kk q H2 (by walk_at "sm") (s1.free hq) ?_
  rw[e2,z.fl]
  show _=some (HO.lst [V.str e.row])
  rw[←z.row]
theorem Kq (T:Txt K mg t) {k:Int} (hk:k=0∨k=1∨k=2∨k=3) (m:Nat):xB P w K mg base jk (m + 2) (yA t k) "rows_told" (GD t k):=by
 have F:=iK (P:=P) (w:=w) (base:=base) T hk
 rcases hk with rfl | rfl | rfl | rfl
 ·exact .mk' T.gY F T.xh.bd (by omega)
 ·exact .mk' T.gq F T.xh.bd (by omega)
 ·exact .mk' T.hU F T.xh.bd (by omega)
 ·exact .mk' T.gj F T.xh.bd (by omega)
theorem uq:qo ["self"] ["self"] (z4 jr):=⟨rfl,rfl,rfl,by decide +kernel,rfl,by decide +kernel,by decide +kernel⟩
set_option maxHeartbeats 400000 in
theorem cA (T:Txt K mg t):qi P w K mg base jk 1 t.ve t.ya ["self"] (GR t):=by
 refine T.gC.fn.ok uq (fun vs H Q E h=>(by obtain⟨_,_,_,rfl,_⟩:=h;rfl)) (fun cdv A outer s H vs Q E hr h=>?_)
 obtain⟨p,n,v,rfl,hA,ho,kk⟩:=h
 refine⟨_,(z8 (qw (qF (z0 (qg qt (qg qt (qg qt qq (qJ (K:=K) rfl (pv 0) rfl)) qq) (qJ (K:=K) rfl (pv 0) rfl)) z5)))),?_⟩
 have l1:=qG ho.1
 have l2:=qG ho.2
 refine⟨_,rfl,_,hA.fn T,?_⟩
 walk_at "rd"
 refine⟨_,hA.fv T,?_⟩
 walk_at "rd"
 intro q H2 s2 hq e2
 refine kk q H2 s2 hq ?_
 rw[e2,X7]
 rfl
end
theorem oX (n:Str) (rs:List Str):(Ew.pt n rs).ws=(["part",n]:List Str) ++ (if rs=[] then [] else [("in" : Str)]) ++ rs:=by cases rs<;>rfl
theorem aP {m n:Str} {a b:Addr} (h:m∉(["name","rooms","rows"]:List Str)):(nA n a b).lookup m=none:=by
 simp only[List.mem_cons,List.not_mem_nil,or_false,not_or] at h
 unfold nA
 rw[qp h.1,qp h.2.1,qp h.2.2]
 rfl
theorem WR {m n v:Str} (h:m∉(["name","value"]:List Str)):(YE n v).lookup m=none:=by
 simp only[List.mem_cons,List.not_mem_nil,or_false,not_or] at h
 unfold YE
 rw[qp h.1,qp h.2]
 rfl
theorem eW:("rows_told" : Str)∉(["name","rooms","rows"]:List Str)∧("first_row" : Str)∉(["name","rooms","rows"]:List Str)∧("rows_told" : Str)∉(["name","value"]:List Str)∧("rows_told" : Str)∉(["label","who","act","turns","room"]:List Str):=by decide +kernel
theorem J9 {r:Rw} {rows:List Rw} {i:Nat} (h:rows[i]?=some r):∀e∈jx r,e∈qY rows:=fun e he=>by
 have h1:=rD h
 have h2:=congrArg qY (List.take_append_drop (i + 1) rows)
 rw[yL,h1] at h2
 rw[←h2]
 exact List.mem_append_left _ (List.mem_append_right _ he)
noncomputable def GC (t:jt):Sp:=fun vs H Q _=>∃(p dx a b:Addr) (n:Str) (rs:List Str),vs=[.ref p]∧H p=some (.ins t.qH dx (nA n a b))∧H a=some (.lst (rs.map V.str))∧n.length≤8∧(∀x∈rs,x.length≤8)∧rs.length≤12∧∀H',qk H H'→Q (.str (Ew.row (.pt n rs))) H'
noncomputable def VN (t:jt):Nat→Sp
 | 0=>fun _ _ _ _=>False
 | n + 1=>fun vs H Q _=>∃(ms:List Addr) (p:Addr) (nm:Str) (rs:List Str) (rows:List Rw),vs=[.ref p]∧xP t ms H (.pt nm rs rows) (.ref p)∧yZ rows∧(∀e∈qY rows,e.ok)∧nm.length≤8∧(∀x∈rs,x.length≤8)∧rs.length≤12∧wW rows + 1≤n∧(qY rows).length≤100∧
  ∀q H',qk H H'→H q=none→H' q=some (.lst ((jx (.pt nm rs rows)).map fun e=>V.str e.row))→Q (.ref q) H'
section
variable {P:Program} {w:World} {K:PySem.W.Frag} {mg:Str→Option Value} {base:Heap} {t:jt}
theorem gF:qo ["self","words"] ["self"] (z4 jg):=⟨rfl,rfl,rfl,by decide +kernel,rfl,by decide +kernel,by decide +kernel⟩
set_option maxHeartbeats 400000 in
theorem cy (T:Txt K mg t):qi P w K mg base jk 1 t.vj t.wH ["self"] (GC t):=by
 refine T.yN.fn.ok gF (fun vs H Q E h=>(by obtain⟨_,_,_,_,_,_,rfl,_⟩:=h;rfl)) (fun cdv A outer s H vs Q E hr h=>?_)
 obtain⟨p,dx,a,b,n,rs,rfl,ep,ea,hn,hrs,hl,k⟩:=h
 refine⟨_,(z6 (qZ (i:=1) gF.nd rfl (Or.inl rfl) (qF (z0 qq (z0 (qJ (K:=K) rfl (pv 0) rfl) z5))) vQ)
   (z6 (PS.join (qP (ql en (qC (jG (K:=K) rfl) rfl T.vY PySem.boot_len (z0 (qJ (K:=K) rfl (pv 0) rfl) z5)) z7 (qe _))
    (z8 (q0 (ji PySem.F.plainAttrs_list PySem.F.slot_list_append PySem.F.type_list_append jv (pv 1) (z0 qq z5)))) qr))
   (z8 (qw (ji PySem.F.plainAttrs_str PySem.F.slot_str_join PySem.F.type_str_join (kc (K:=K) rfl) qq (z0 (qg wD (pv 1) (qJ (K:=K) rfl (pv 0) rfl)) z5)))))),?_⟩
 refine⟨_,rfl,_,Wg T ep,?_⟩
 walk_at "rd"
 intro l1 H1 s1 hl1 e1
 have ep1:=s1 _ _ ep
 have ea1:=s1 _ _ ea
 show pS 1 (V.ref l1) [some (.ref p),none] _ _
 refine⟨fun σ' H'=>(σ'=[some (.ref p),some (.ref l1)]∧qk H H'∧H' l1=some (.lst (((["part",n]:List Str) ++ (if rs=[] then [] else [("in" : Str)])).map V.str)))∨False,?_,?_⟩
 ·refine⟨_,rfl,_,Xz T ep1,?_⟩
  refine⟨a,_,rfl,.inl (qD.of ea1),?_⟩
  rw[List.length_map]
  walk_at "rd"
  refine jH (fun h1=>?_) (fun h1=>?_)
  ·have h1':(0:Int) < (rs.length:Int):=of_decide_eq_true h1
   have hne:rs≠[]:=fun z=>by rw[z] at h1';simp at h1'
   walk_at "rd"
   intro H2 k2 e2
   refine .inl ⟨rfl,k2.put s1 hl1,?_⟩
   rw[e2,if_neg hne]
   rfl
  ·have he:rs=[]:=by
    cases rs with
    | nil=>rfl
    | cons y r=>exact absurd (decide_eq_true (show (0:Int) < ((y :: r).length:Int) by simp only[List.length_cons];omega)) h1
   refine .inl ⟨rfl,s1,?_⟩
   rw[e1,if_pos he]
   rfl
 rintro σ' H2 (⟨rfl,s2,e2⟩ | ⟨⟨⟩⟩)
 have ep2:=s2 _ _ ep
 have ea2:=s2 _ _ ea
 have hil:(if rs=[] then [] else [("in" : Str)]).length≤1:=by split<;>simp
 walk_at "rd"
 refine⟨_,Xz T ep2,?_⟩
 refine⟨l1,a,_,_,rfl,rfl,e2,ea2,qj (by simp only[List.length_map,List.length_append,List.length_cons,List.length_nil];omega),?_⟩
 rw[←List.map_append,←oX]
 intro l3 H3 s3 hl3 e3
 have ht:iw (Ew.pt n rs).ws≤900:=by
  have h1:=fV (n:=8) (ws:=(Ew.pt n rs).ws) fun x hx=>by
   rw[oX] at hx
   (rcases List.mem_append.mp hx with hx | hx)
   ·(rcases List.mem_append.mp hx with hx | hx)
    ·simp only[List.mem_cons,List.not_mem_nil,or_false] at hx
     rcases hx with rfl | rfl
     ·decide +kernel
     ·exact hn
    ·split at hx
     ·cases hx
     ·rw[List.mem_singleton.mp hx];decide +kernel
   ·exact hrs x hx
  have h2:(Ew.pt n rs).ws.length≤15:=by rw[oX];simp only[List.length_append,List.length_cons,List.length_nil];omega
  omega
 refine⟨_,l3,_,rfl,rfl,qD.of e3,by rw[cJ];omega,?_⟩
 exact k H3 (s2.trans s3)
theorem kG:qo ["self","told","row"] ["self"] (z4 jh):=⟨rfl,rfl,rfl,by decide +kernel,rfl,by decide +kernel,by decide +kernel⟩
set_option maxHeartbeats 400000 in
theorem m7 (T:Txt K mg t):∀n:Nat,qi P w K mg base jk (n + 1) t.xU t.vz ["self"] ((VN t) n):=by
 intro n
 induction n
 ·exact T.kF.fn.ok kG (fun vs H Q E h=>False.elim h) (fun cdv A outer s H vs Q E hr h=>False.elim h)
 rename_i n ih
 refine T.kF.fn.ok kG (fun vs H Q E h=>(by first | (obtain⟨rfl,_⟩:=h;rfl) | (obtain⟨_,rfl,_⟩:=h;rfl) | (obtain⟨_,_,rfl,_⟩:=h;rfl) | (obtain⟨_,_,_,rfl,_⟩:=h;rfl) | (obtain⟨_,_,_,_,rfl,_⟩:=h;rfl) | (obtain⟨_,_,_,_,_,rfl,_⟩:=h;rfl) | (obtain⟨_,_,_,_,_,_,rfl,_⟩:=h;rfl) | (obtain⟨_,_,_,_,_,_,_,rfl,_⟩:=h;rfl) | (obtain⟨_,_,_,_,_,_,_,_,rfl,_⟩:=h;rfl) | (obtain⟨_,_,_,_,_,_,_,_,_,rfl,_⟩:=h;rfl) | (obtain⟨_,_,_,_,_,_,_,_,_,_,rfl,_⟩:=h;rfl) | (obtain⟨_,_,_,_,_,_,_,_,_,_,_,rfl,_⟩:=h;rfl) | (obtain⟨_,_,_,_,_,_,_,_,_,_,_,_,rfl,_⟩:=h;rfl) | (obtain⟨_,_,_,_,_,_,_,_,_,_,_,_,_,rfl,_⟩:=h;rfl) | (obtain⟨_,_,_,_,_,_,_,_,_,_,_,_,_,_,rfl,_⟩:=h;rfl) | (obtain⟨_,_,_,_,_,_,_,_,_,_,_,_,_,_,_,rfl,_⟩:=h;rfl) | (obtain⟨_,_,_,_,_,_,_,_,_,_,_,_,_,_,_,_,rfl,_⟩:=h;rfl) | (obtain⟨_,_,_,_,_,_,_,_,_,_,_,_,_,_,_,_,_,rfl,_⟩:=h;rfl) | (obtain⟨_,_,_,_,_,_,_,_,_,_,_,_,_,_,_,_,_,_,rfl,_⟩:=h;rfl) | (obtain⟨_,_,_,_,_,_,_,_,_,_,_,_,_,_,_,_,_,_,_,rfl,_⟩:=h;rfl) | (obtain⟨_,_,_,_,_,_,_,_,_,_,_,_,_,_,_,_,_,_,_,_,rfl,_⟩:=h;rfl) | (obtain⟨_,_,_,_,_,_,_,_,_,_,_,_,_,_,_,_,_,_,_,_,_,rfl,_⟩:=h;rfl) | (obtain⟨_,_,_,_,_,_,_,_,_,_,_,_,_,_,_,_,_,_,_,_,_,_,rfl,_⟩:=h;rfl) | (obtain⟨_,_,_,_,_,_,_,_,_,_,_,_,_,_,_,_,_,_,_,_,_,_,_,rfl,_⟩:=h;rfl))) (fun cdv A outer s H vs Q E hr h=>?_)
 obtain⟨ms,p,nm,rs,rows,rfl,hR,hk,jc,hnm,hrs,hrl,hd,hlen,kk⟩:=h
 refine⟨_,(z6 (qZ (i:=1) kG.nd rfl (Or.inl rfl) (qF (z0 (ki hr (pv 0)) z5)) vQ)
   (z6 (yJ PassesOwn.never rfl (vo (K:=K) rfl (qJ (K:=K) rfl (pv 0) rfl)) (jC (i:=2) kG.nd rfl (Or.inl rfl))
    (z8 (q0 (ji PySem.F.plainAttrs_list PySem.F.slot_list_extend PySem.F.type_list_extend tT (pv 1) (z0 (ki hr (pv 2)) z5)))))
   (z6 (q0 (ji PySem.F.plainAttrs_list PySem.F.slot_list_append PySem.F.type_list_append jv (pv 1) (z0 qq z5)))
   (z8 (qw (pv 1)))))),?_⟩
 unfold xP at hR
 obtain⟨p',dx,a,b,ys,ep',hp,ha,hb,ep,ea,eb,hRs⟩:=hR
 cases ep'
 have MF:∀m,xB P w K mg base jk (m + 1) t.qH "first_row" (GC t):=fun m=>.mk' T.gG (cy T) T.yN.bd (by omega)
 have hdr:(jx (.pt nm rs rows)).map (fun e=>V.str e.row)=(Ew.row (.pt nm rs) :: ((qY rows).map Ew.row ++ [("done" : Str)])).map V.str:=by
  rw[jx,List.map_cons,List.map_cons,List.map_append,List.map_append,List.map_map,List.map_cons,List.map_cons,g7]
  rfl
 walk_at "rd"
 refine⟨p,t.qH,dx,_,rfl,ep,T.kJ,aP eW.2.1,_,MF n,?_⟩
 refine⟨p,dx,a,b,nm,rs,rfl,ep,ea,hnm,hrs,hrl,fun H1 s1=>?_⟩
 walk_at "rd"
 intro l H2 s2 hl e2
 have sA:qk H H2:=s1.trans s2
 have hlH:H l=none:=s1.free hl
 have hml:∀c∈l :: ms,c∈ms∨H c=none:=fun c h=>(List.mem_cons.mp h).elim (fun z=>.inr (by rw[z];exact hlH)) .inl
 have ep2:=sA _ _ ep
 have eb2:=sA _ _ eb
 walk_at "rd"
 refine⟨_,Xq T ep2,?_⟩
 refine⟨b,rfl,⟨_,qD.of eb2⟩,?_⟩
 refine pL (K:=K) (a:=b) (xs:=ys) (fun i σ H'=>∃(v2:Option V),σ=[some (.ref p),some (.ref l),v2]∧qk H H'∧H' l=some (.lst ((Ew.row (.pt nm rs) :: (qY (rows.take i)).map Ew.row).map V.str)))
  ⟨none,rfl,sA,by rw[e2,List.take_zero,qY];rfl⟩ (fun i σ H' _ ⟨_,_,q,_⟩=>qD.of (q _ _ eb)) ?_ ?_
 ·rintro i y σ H3 hi ⟨v2,rfl,s3,e3⟩
  obtain⟨r,hr',hRw⟩:=jb.Q8 hRs hi
  have hk1:=hk.Q8 hr'
  have hd1:=rB hr'
  have hfl:=rD hr'
  have hmem:=J9 hr'
  have hfn:=iF (rs:=rows) (i + 1)
  rw[hfl,List.length_append] at hfn
  have hRw3:xP t (l :: ms) H3 r y:=hRw.move (Fm.of s3) hml
  have hext:∀(q:Addr) (H4:Hp),qk H3 H4→H4 q=some (.lst ((jx r).map fun e=>V.str e.row))→∀H5,Keeps l H4 H5→H5 l=some (.lst (((Ew.row (.pt nm rs) :: (qY (rows.take i)).map Ew.row).map V.str) ++ (jx r).map fun e=>V.str e.row))→∃(v2:Option V),[some (V.ref p),some (V.ref l),some y]=[some (.ref p),some (.ref l),v2]∧qk H H5∧H5 l=some (.lst ((Ew.row (.pt nm rs) :: (qY (rows.take (i + 1))).map Ew.row).map V.str)):=fun q H4 s4 eq H5 k5 e5=>by
   refine⟨_,rfl,k5.put (s3.trans s4) hlH,?_⟩
   rw[e5,hfl,List.map_append,←List.cons_append,List.map_append,List.map_map]
   rfl
  have hlen3:((Ew.row (.pt nm rs) :: (qY (rows.take i)).map Ew.row).map V.str).length=(qY (rows.take i)).length + 1:=by simp
  cases r with
  | lt n' v'=>
   unfold xP at hRw3
   obtain⟨p1,rfl,hp1,hA⟩:=hRw3
   have ML:xB P w K mg base jk (n + 1) t.kZ "rows_told" (GR t):=.mk' T.bz (cA T) T.gC.bd (by omega)
   have ho:(Ew.lt n' v').ok:=jc _ (hmem _ (by rw[jx];simp))
   obtain⟨dx1,eA⟩:=id hA
   refine⟨_,rfl,.inl ⟨rfl,_,qD.of e3⟩,?_⟩
   refine⟨_,rfl,p1,t.kZ,dx1,_,rfl,eA,T.mT,WR eW.2.2.1,_,ML,?_⟩
   refine⟨p1,n',v',rfl,hA,ho,fun q H4 s4 hq e4=>?_⟩
   refine⟨l,q,_,_,rfl,rfl,s4 _ _ e3,e4,qj (by rw[hlen3,List.length_map];omega),?_⟩
   intro H5 k5 e5
   exact hext q H4 s4 e4 H5 k5 e5
  | cl k' l' u' a' n' r'=>
   unfold xP at hRw3
   obtain⟨p1,rfl,hp1,hA⟩:=hRw3
   rw[dW] at hk1
   obtain⟨m',rfl⟩:∃m',n=m' + 1:=⟨n - 1,by omega⟩
   obtain⟨dx1,fs1,m1,m2,m3⟩:=At.me T hA (m:="rows_told") eW.2.2.2
   refine⟨_,rfl,.inl ⟨rfl,_,qD.of e3⟩,?_⟩
   refine⟨_,rfl,p1,_,dx1,fs1,rfl,m1,m2,m3,_,Kq T hk1 m',?_⟩
   refine⟨p1,l',u',a',n',r',rfl,hA,⟨hk1,fun e he=>jc e (hmem e he)⟩,fun q H4 s4 hq e4=>?_⟩
   refine⟨l,q,_,_,rfl,rfl,s4 _ _ e3,e4,qj (by rw[hlen3,List.length_map];omega),?_⟩
   intro H5 k5 e5
   exact hext q H4 s4 e4 H5 k5 e5
  | pt n' rs' rows'=>
   have hR3:=hRw3
   unfold xP at hRw3
   obtain⟨p1,dx1,a1,b1,ys1,rfl,hp1,ha1,hb1,q1,q2,q3,q4⟩:=hRw3
   rw[dW] at hk1
   rw[uY] at hd1
   have ho:(Ew.pt n' rs').ok:=jc _ (hmem _ (by rw[jx];simp))
   have hin:∀e∈qY rows',e.ok:=fun e he=>jc e (hmem e (by rw[jx];simp [he]))
   have hf2:(jx (.pt n' rs' rows')).length=(qY rows').length + 2:=by rw[jx];simp
   obtain⟨m',rfl⟩:∃m',n=m' + 1:=⟨n - 1,by omega⟩
   have MP:xB P w K mg base jk (m' + 1 + 1) t.qH "rows_told" (VN t (m' + 1)):=.mk' T.wy ih T.kF.bd (by omega)
   refine⟨_,rfl,.inl ⟨rfl,_,qD.of e3⟩,?_⟩
   refine⟨_,rfl,p1,t.qH,dx1,_,rfl,q1,T.kJ,aP eW.1,_,MP,?_⟩
   refine⟨l :: ms,p1,n',rs',rows',rfl,hR3,hk1,hin,qG ho.1,fun x hx=>qG (ho.2.1 x hx),ho.2.2,by omega,by omega,fun q H4 s4 hq e4=>?_⟩
   refine⟨l,q,_,_,rfl,rfl,s4 _ _ e3,e4,qj (by rw[hlen3,List.length_map];omega),?_⟩
   intro H5 k5 e5
   exact hext q H4 s4 e4 H5 k5 e5
 ·rintro σ H3 ⟨v2,rfl,s3,e3⟩
  rw[hRs.len,List.take_length] at e3
  walk_at "rd"
  intro H4 k4 e4
  walk_at "rd"
  refine kk l H4 (k4.put s3 hlH) hlH ?_
  rw[e4,hdr,←List.cons_append,List.map_append]
  rfl
theorem cg (T:Txt K mg t):qi P w K mg base jk 10 t.xU t.vz ["self"] ((VN t) 9):=m7 T 9
end
theorem QP (x z:V) (ys:List V):g6 (x :: (ys ++ [z])) (some 1) (some (-1))=ys:=by
 unfold g6
 have h1:HT.sJ (x :: (ys ++ [z])).length 0 (some 1)=1:=by
  rw[show (1:Int)=((1:Nat):Int) from rfl,HT.bE]
  simp only[List.length_cons]
  omega
 have h2:HT.sJ (x :: (ys ++ [z])).length (x :: (ys ++ [z])).length (some (-1))=ys.length + 1:=by
  unfold HT.sJ
  dsimp only
  rw[if_pos (by decide)]
  simp only[List.length_cons,List.length_append,List.length_nil]
  omega
 rw[h1,h2,List.drop_succ_cons,List.drop_zero,Nat.add_sub_cancel,List.take_left]
theorem KP:("whole" : Str).length≤8:=by decide +kernel
theorem VO {ws:List Str} {n m:Nat} (h:∀x∈ws,x.length≤n) (hl:ws.length≤m):iw ws≤(n + 1) * m:=Nat.le_trans (fV h) (Nat.mul_le_mul_left _ hl)
noncomputable def kH (t:jt):Sp:=fun vs H Q _=>∃(p:Addr) (ps as:List Str) (qR:List (Str × Str)) (rows:List Rw),vs=[.ref p]∧gU t H p ps as qR (.pt "whole" [] rows)∧Y2 ps as qR∧yZ rows∧(∀e∈qY rows,e.ok)∧wW rows≤6∧(qY rows).length≤80∧∀H',qk H H'→Q (.str (Txt.join "; " (rowsOf ps as qR (qY rows)))) H'
section
variable {P:Program} {w:World} {K:PySem.W.Frag} {mg:Str→Option Value} {base:Heap} {t:jt}
section
variable {H:Hp} {p dx a b c:Addr} {x:V}
theorem Wx (T:Txt K mg t) (e:H p=some (.ins t.jF dx (Vb a b c x))):tf K H (.ref p) "parties" (.ref a):=⟨p,_,dx,_,rfl,e,T.yW,T.yQ,qI⟩
theorem Wv (T:Txt K mg t) (e:H p=some (.ins t.jF dx (Vb a b c x))):tf K H (.ref p) "acts" (.ref b):=⟨p,_,dx,_,rfl,e,T.yW,T.bU,(qp fun q=>My.a1 (Eq.symm q)).trans qI⟩
theorem Ww (T:Txt K mg t) (e:H p=some (.ins t.jF dx (Vb a b c x))):tf K H (.ref p) "rooms" (.ref c):=⟨p,_,dx,_,rfl,e,T.yW,T.gT,(qp fun q=>My.a2 (Eq.symm q)).trans ((qp fun q=>My.a4 (Eq.symm q)).trans qI)⟩
theorem Wy (T:Txt K mg t) (e:H p=some (.ins t.jF dx (Vb a b c x))):tf K H (.ref p) "whole" x:=⟨p,_,dx,_,rfl,e,T.yW,T.gN,(qp fun q=>My.a3 (Eq.symm q)).trans ((qp fun q=>My.a5 (Eq.symm q)).trans ((qp fun q=>My.a6 (Eq.symm q)).trans qI))⟩
end
theorem dq:qo ["pact","rows","room"] ["pact"] (z4 vw):=⟨rfl,rfl,rfl,by decide +kernel,rfl,by decide +kernel,by decide +kernel⟩
set_option maxHeartbeats 400000 in
theorem a9 (T:Txt K mg t):qi P w K mg base jk 11 t.fS t.fR ["pact"] (kH t):=by
 refine T.jY.fn.ok dq (fun vs H Q E h=>(by obtain⟨_,_,_,_,_,rfl,_⟩:=h;rfl)) (fun cdv A outer s H vs Q E hr h=>?_)
 obtain⟨p,ps,as,qR,rows,rfl,hP,hW,hk,jc,hd,hlen,kk⟩:=h
 refine⟨_,(z6 (qZ (i:=1) dq.nd rfl (Or.inl rfl) (qF (z0 (ji PySem.F.plainAttrs_str PySem.F.slot_str_join PySem.F.type_str_join (kc (K:=K) rfl) qq (z0 (qg wD (qF (z0 qq z5)) (qJ (K:=K) rfl (pv 0) rfl)) z5)) (z0 (ji PySem.F.plainAttrs_str PySem.F.slot_str_join PySem.F.type_str_join (kc (K:=K) rfl) qq (z0 (qg wD (qF (z0 qq z5)) (qJ (K:=K) rfl (pv 0) rfl)) z5)) z5))) vQ)
   (z6 (yJ PassesOwn.never rfl (vo (K:=K) rfl (qJ (K:=K) rfl (pv 0) rfl)) (jC (i:=2) dq.nd rfl (Or.inl rfl))
    (z8 (q0 (ji PySem.F.plainAttrs_list PySem.F.slot_list_append PySem.F.type_list_append jv (pv 1) (z0 (ji PySem.F.plainAttrs_str PySem.F.slot_str_join PySem.F.type_str_join (Q3 (K:=K) rfl) qq (z0 (pv 2) z5)) z5)))))
   (z8 (qw (ji PySem.F.plainAttrs_str PySem.F.slot_str_join PySem.F.type_str_join (kc (K:=K) rfl) qq (z0 (qg wD (pv 1) (kT (kL (K:=K) rfl) (ki hr (qJ (K:=K) rfl (pv 0) rfl)) (xi z7) (xi (Qv ig z7)))) z5)))))),?_⟩
 obtain⟨dx,a,b,c,x,vs,ep,ea,eb,ec,hRm,hRw⟩:=hP
 have hRw0:=hRw
 unfold xP at hRw
 obtain⟨pw,dxw,aw,bw,yw,rfl,_,_,_,epw,eaw,ebw,hRs⟩:=hRw
 have p2:=hW.p2;have a2:=hW.a2;have r2:=hW.r2
 have hvl:vs.length=qR.length:=Paired.length hRm
 have hb1:∀{w0:Str} {ns:List Str},w0.length≤8→(∀y∈ns,qK y=true)→ns.length≤6→((w0 :: ns).map (·.length)).sum + (w0 :: ns).length * (Str.ofString " ").length≤1000:=fun {w0 ns} h0 hn hl=>by
  have:=VO (ws:=w0 :: ns) (n:=8) (m:=7) (fun y hy=>(List.mem_cons.mp hy).elim (fun z=>by rw[z];exact h0) (fun z=>qG (hn y z))) (by simp only[List.length_cons];omega)
  have e:=cJ (w0 :: ns)
  show _ + _ * (" " : Str).length≤_
  omega
 walk_at "rd"
 intro l1 H1 s1 hl1 e1
 walk_at "rd"
 refine⟨_,Wx T (s1 _ _ ep),?_⟩
 refine⟨l1,a,_,_,rfl,rfl,e1,s1 _ _ ea,qj (by rw[List.length_map];simp only[List.length_cons,List.length_nil];omega),?_⟩
 intro l2 H2 s2 hl2 e2
 have e2':H2 l2=some (.lst ((("parties" : Str) :: ps).map V.str)):=e2
 clear e2
 refine⟨_,l2,("parties" : Str) :: ps,rfl,rfl,qD.of e2',Nat.le_trans (hb1 (by decide +kernel) hW.pn (by omega)) (by decide),?_⟩
 walk_at "rd"
 intro l3 H3 s3 hl3 e3
 have s13:qk H H3:=(s1.trans s2).trans s3
 walk_at "rd"
 refine⟨_,Wv T (s13 _ _ ep),?_⟩
 refine⟨l3,b,_,_,rfl,rfl,e3,s13 _ _ eb,qj (by rw[List.length_map];simp only[List.length_cons,List.length_nil];omega),?_⟩
 intro l4 H4 s4 hl4 e4
 have e4':H4 l4=some (.lst ((("acts" : Str) :: as).map V.str)):=e4
 clear e4
 refine⟨_,l4,("acts" : Str) :: as,rfl,rfl,qD.of e4',Nat.le_trans (hb1 (by decide +kernel) hW.an (by omega)) (by decide),?_⟩
 walk_at "rd"
 intro l5 H5 s5 hl5 e5
 have s15:qk H H5:=(s13.trans s4).trans s5
 have hl5H:H l5=none:=(s13.trans s4).free hl5
 have e5':H5 l5=some (.lst ((rowsOf ps as [] []).map V.str)):=e5
 clear e5 e1 e2' e3 e4' s1 s2 s3 s4 s5 s13
 show pS 1 (V.ref l5) [some (.ref p),none,none] _ _
 walk_at "rd"
 refine⟨_,Ww T (s15 _ _ ep),?_⟩
 refine⟨c,rfl,⟨_,qD.of (s15 _ _ ec)⟩,?_⟩
 refine pL (K:=K) (a:=c) (xs:=vs) (fun i σ H'=>∃(v2:Option V),σ=[some (.ref p),some (.ref l5),v2]∧qk H H'∧H' l5=some (.lst ((rowsOf ps as (qR.take i) []).map V.str)))
  ⟨none,rfl,s15,e5'⟩ (fun i σ H' _ ⟨_,_,q,_⟩=>qD.of (q _ _ ec)) ?_ ?_
 ·rintro i y σ H6 hi ⟨v2,rfl,s6,e6⟩
  obtain⟨mn,hmn,q,rfl,eq⟩:=Paired.Q8 hRm hi
  have hi':i < qR.length:=(List.getElem?_eq_some_iff.mp hmn).1
  have hm:=hW.rn mn (List.mem_of_getElem? hmn)
  have g1:=(rz _ hm.1).2.2.1
  have g2:=qG hm.2
  have eq6:=s6 _ _ eq
  have hrl:=@bp ps as (qR.take i) []
  refine⟨_,rfl,.inl ⟨rfl,_,qD.of e6⟩,?_⟩
  walk_at "rd"
  refine⟨_,q,[mn.1,mn.2],rfl,rfl,yy.of eq6,?_,?_⟩
  ·have w6:(Str.ofString " ").length=1:=by decide +kernel
   simp only[List.map_cons,List.map_nil,List.sum_cons,List.sum_nil,List.length_cons,List.length_nil,w6]
   omega
  refine⟨l5,_,_,rfl,rfl,e6,qj (by rw[List.length_map,hrl,List.length_take];simp only[List.length_nil];omega),?_⟩
  intro H7 k7 e7
  refine⟨_,rfl,k7.put s6 hl5H,?_⟩
  rw[e7,take_snoc hmn,Qp,List.map_append]
  rfl
 rintro σ H6 ⟨v2,rfl,s6,e6⟩
 rw[hvl,List.take_length] at e6
 have MP:xB P w K mg base jk 10 t.qH "rows_told" (VN t 9):=.mk' T.wy (cg T) T.kF.bd (by decide)
 walk_at "rd"
 refine⟨_,Wy T (s6 _ _ ep),?_⟩
 refine⟨pw,t.qH,dxw,_,rfl,s6 _ _ epw,T.kJ,aP eW.1,_,MP,?_⟩
 refine⟨[],pw,"whole",[],rows,rfl,hRw0.move (Fm.of s6) (fun c h=>(by cases h)),hk,jc,KP,fun x hx=>(by cases hx),by decide,(show wW rows + 1≤8 by omega),by omega,fun q H7 s7 hq e7=>?_⟩
 have e7':H7 q=some (.lst (V.str (Ew.row (.pt "whole" [])) :: (((qY rows).map Ew.row).map V.str ++ [V.str ("done" : Str)]))):=by
  rw[e7,jx,List.map_cons,List.map_append,List.map_map,List.map_cons,g7]
  rfl
 clear e7
 walk_at "rd"
 rw[QP]
 intro l8 H8 s8 hl8 e8
 have e68:=s8 _ _ (s7 _ _ e6)
 have hrl:=@bp ps as qR []
 refine⟨l5,l8,_,_,rfl,rfl,e68,e8,qj (by rw[List.length_map,List.length_map,List.length_map,hrl];simp only[List.length_nil];omega),?_⟩
 rw[←List.map_append,←nZ,List.nil_append]
 intro l9 H9 s9 hl9 e9
 have hF:=Qb hW jc
 have hsum:((rowsOf ps as qR (qY rows)).map (·.length)).sum + (rowsOf ps as qR (qY rows)).length * (Str.ofString "; ").length≤30000:=by
  have h1:=Zt (n:=180) (xs:=rowsOf ps as qR (qY rows)) fun x hx=>(hF x hx).sh
  have h2:=@bp ps as qR (qY rows)
  have h3:(Str.ofString "; ").length=2:=by decide +kernel
  rw[h3];omega
 walk_at "rd"
 refine⟨_,l9,_,rfl,rfl,qD.of e9,Nat.le_trans hsum (by decide),?_⟩
 exact kk H9 (((s6.trans s7).trans s8).trans s9)
end
noncomputable def Zp:Ew→Rw
 | .lt a b=>.lt a b
 | .mu l w a n r=>.cl 0 l w a n r
 | .my l w a=>.cl 1 l w a 0 ""
 | .bn l w a r=>.cl 2 l w a 0 r
 | .pw l w a r=>.cl 3 l w a 0 r
 | .pt n rs=>.pt n rs []
 | .dn=>.lt "" ""
noncomputable def XO:Ew→Bool
 | .pt _ _=>false
 | .dn=>false
 | _=>true
noncomputable def Ws (t:jt):Sp:=fun vs H Q _=>∃(v:V) (e:Ew),vs=[v]∧pG H v e∧XO e=true∧∀p H',qk H H'→H p=none→(∀ms,p∉ms→xP t ms H' (Zp e) (.ref p))→Q (.ref p) H'
section
variable {P:Program} {w:World} {K:PySem.W.Frag} {mg:Str→Option Value} {base:Heap} {t:jt}
theorem eO:qo ["_law_event_here"] ["_law_event_here"] (z4 km):=⟨rfl,rfl,rfl,by decide +kernel,rfl,by decide +kernel,by decide +kernel⟩
set_option maxHeartbeats 400000 in
theorem eh (T:Txt K mg t):qi P w K mg base jk 4 t.bF t.bV ["_law_event_here"] (Ws t):=by
 have M_Ban_init:qi P w K mg base jk 2 t.vK t.y0 ["self","label","who","act","room"] (Jn K):=(uZ T).mono (by decide)
 have M_Clause_init:qi P w K mg base jk 2 t.qE t.xk ["self","label","who","act"] (Jt K):=(kS T).mono (by decide)
 have M_Duty_init:qi P w K mg base jk 2 t.kC t.yh ["self","label","who","act","turns","room"] (YZ K):=(cv T).mono (by decide)
 have M_Let_init:qi P w K mg base jk 2 t.wB t.y1 ["self","name","value"] (YQ t):=(uQ T).mono (by decide)
 have M_Power_init:qi P w K mg base jk 2 t.x9 t.vL ["self","label","who","act","room"] (Jn K):=(mD T).mono (by decide)
 refine T.fB.fn.ok eO (fun vs H Q E h=>(by obtain⟨_,_,rfl,_⟩:=h;rfl)) (fun cdv A outer s H vs Q E hr h=>?_)
 obtain⟨v,e,rfl,hE,hp,k⟩:=h
 refine⟨_,(z6 (qP (ql jd (qy (qu (K:=K) rfl) (pv 0) z7 (fun _ _=>rfl)) qq (qe _))
    (z8 (qw (xr T.aO M_Let_init hr rfl T.Z7 T.dy.bd .nil qQ (z0 (qy (qu (K:=K) rfl) (pv 0) z7 (fun _ _=>rfl)) (z0 (qy (qu (K:=K) rfl) (pv 0) z7 (fun _ _=>rfl)) z5))))) qr)
   (z6 (qP (ql jd (qy (qu (K:=K) rfl) (pv 0) z7 (fun _ _=>rfl)) qq (qe _))
    (z8 (qw (xr T.rq M_Duty_init hr rfl T.oj T.fM.bd .nil qQ (z0 (qy (qu (K:=K) rfl) (pv 0) z7 (fun _ _=>rfl)) (z0 (qy (qu (K:=K) rfl) (pv 0) z7 (fun _ _=>rfl)) (z0 (qy (qu (K:=K) rfl) (pv 0) z7 (fun _ _=>rfl)) (z0 (qy (qu (K:=K) rfl) (pv 0) z7 (fun _ _=>rfl)) (z0 (qy (qu (K:=K) rfl) (pv 0) z7 (fun _ _=>rfl)) z5)))))))) qr)
   (z6 (qP (ql jd (qy (qu (K:=K) rfl) (pv 0) z7 (fun _ _=>rfl)) qq (qe _))
    (z8 (qw (xr T.dO M_Clause_init hr rfl T.dS T.kP.bd .nil qQ (z0 (qy (qu (K:=K) rfl) (pv 0) z7 (fun _ _=>rfl)) (z0 (qy (qu (K:=K) rfl) (pv 0) z7 (fun _ _=>rfl)) (z0 (qy (qu (K:=K) rfl) (pv 0) z7 (fun _ _=>rfl)) z5)))))) qr)
   (z6 (qP (ql jd (qy (qu (K:=K) rfl) (pv 0) z7 (fun _ _=>rfl)) qq (qe _))
    (z8 (qw (xr T.ow M_Ban_init hr rfl T.Z6 T.dw.bd .nil qQ (z0 (qy (qu (K:=K) rfl) (pv 0) z7 (fun _ _=>rfl)) (z0 (qy (qu (K:=K) rfl) (pv 0) z7 (fun _ _=>rfl)) (z0 (qy (qu (K:=K) rfl) (pv 0) z7 (fun _ _=>rfl)) (z0 (qy (qu (K:=K) rfl) (pv 0) z7 (fun _ _=>rfl)) z5))))))) qr)
   (z8 (qw (xr T.dI M_Power_init hr rfl T.u9 T.br.bd .nil qQ (z0 (qy (qu (K:=K) rfl) (pv 0) z7 (fun _ _=>rfl)) (z0 (qy (qu (K:=K) rfl) (pv 0) z7 (fun _ _=>rfl)) (z0 (qy (qu (K:=K) rfl) (pv 0) z7 (fun _ _=>rfl)) (z0 (qy (qu (K:=K) rfl) (pv 0) z7 (fun _ _=>rfl)) z5))))))))))),?_⟩
 cases e with
 | pt n rs=>cases hp
 | dn=>cases hp
 | lt a b=>
  obtain⟨q,rfl,eq⟩:=hE
  walk_at "rd"
  intro p dx hp hdx hne
  refine⟨p,dx,_,_,rfl,qx,rfl,?_⟩
  exact k p _ (ko hp hdx hne) hp fun ms hm=>by
   unfold Zp xP
   exact⟨p,rfl,hm,dx,qx⟩
 | mu l u a n r=>
  obtain⟨q,rfl,eq⟩:=hE
  walk_at "rd"
  intro p dx hp hdx hne
  refine⟨p,_,dx,_,_,_,_,_,_,rfl,nS T,qx,rfl,?_⟩
  exact k p _ (ko hp hdx hne) hp fun ms hm=>by
   unfold Zp xP
   exact⟨p,rfl,hm,dx,qx⟩
 | my l u a=>
  obtain⟨q,rfl,eq⟩:=hE
  walk_at "rd"
  intro p dx hp hdx hne
  refine⟨p,_,dx,_,_,_,_,rfl,rV T,qx,rfl,?_⟩
  exact k p _ (ko hp hdx hne) hp fun ms hm=>by
   unfold Zp xP
   exact⟨p,rfl,hm,dx,qx⟩
 | bn l u a r=>
  obtain⟨q,rfl,eq⟩:=hE
  walk_at "rd"
  intro p dx hp hdx hne
  refine⟨p,_,dx,_,_,_,_,_,rfl,aQ T,qx,rfl,?_⟩
  exact k p _ (ko hp hdx hne) hp fun ms hm=>by
   unfold Zp xP
   exact⟨p,rfl,hm,dx,qx⟩
 | pw l u a r=>
  obtain⟨q,rfl,eq⟩:=hE
  walk_at "rd"
  intro p dx hp hdx hne
  refine⟨p,_,dx,_,_,_,_,_,rfl,rW T,qx,rfl,?_⟩
  exact k p _ (ko hp hdx hne) hp fun ms hm=>by
   unfold Zp xP
   exact⟨p,rfl,hm,dx,qx⟩
end
noncomputable def sY (t:jt) (ms:List Addr) (H:Hp) (f:Addr × Addr × Addr) (g:Fr):Prop:=H f.1=some (.tup [.str g.1,.ref f.2.1,.ref f.2.2])∧f.2.1∈ms∧f.2.2∈ms∧H f.2.1=some (.lst (g.2.1.map V.str))∧∃ys,H f.2.2=some (.lst ys)∧jb t ms H g.2.2 ys
noncomputable def vV (fs:List (Addr × Addr × Addr)):List Addr:=fs.flatMap fun f=>[f.2.1,f.2.2]
structure cU (t:jt) (ms:List Addr) (H:Hp) (l:Addr) (fs:List (Addr × Addr × Addr)) (fr:List Fr):Prop where
 el:H l=some (.lst (fs.reverse.map fun f=>V.ref f.1))
 lm:l∈ms
 nd:(l :: vV fs).Nodup
 at_:Paired (sY t ms H) fs fr
 al:∀c∈ms,∃o,H c=some o
theorem uR {ms:List Addr} {H H':Hp} {x:Addr} (h:∀c∈ms,∃o,H c=some o) (k:Keeps x H H') (hx:∃o,H' x=some o):∀c∈ms,∃o,H' c=some o:=fun c hc=>by
 by_cases q:c=x
 ·rw[q];exact hx
 ·obtain⟨o,e⟩:=h c hc
  exact⟨o,k.look e q⟩
theorem sY.same {t:jt} {ms:List Addr} {H H':Hp} {f:Addr × Addr × Addr} {g:Fr} (h:sY t ms H f g) (s:qk H H'):sY t ms H' f g:=by
 obtain⟨h1,h2,h3,h4,ys,h5,h6⟩:=h
 exact⟨s _ _ h1,h2,h3,s _ _ h4,ys,s _ _ h5,h6.move (Fm.of s) fun b hb=>.inl hb⟩
theorem sY.more {t:jt} {ms:List Addr} {H:Hp} {f:Addr × Addr × Addr} {g:Fr} {c:Addr} (h:sY t ms H f g) (hc:H c=none):sY t (c :: ms) H f g:=by
 obtain⟨h1,h2,h3,h4,ys,h5,h6⟩:=h
 exact⟨h1,List.mem_cons_of_mem _ h2,List.mem_cons_of_mem _ h3,h4,ys,h5,h6.move (fun b o _ e=>e) fun b hb=>(List.mem_cons.mp hb).elim (fun z=>.inr (by rw[z];exact hc)) .inl⟩
theorem sY.keep {t:jt} {ms:List Addr} {H H':Hp} {f:Addr × Addr × Addr} {g:Fr} {x:Addr} {zs:List V} (h:sY t ms H f g) (k:Keeps x H H') (hx:x∈ms) (ex:H x=some (.lst zs)) (n1:f.2.1≠x) (n2:f.2.2≠x):sY t ms H' f g:=by
 obtain⟨h1,h2,h3,h4,ys,h5,h6⟩:=h
 refine⟨k.look h1 (yV h1 ex (by intro z;cases z)),h2,h3,k.look h4 n1,ys,k.look h5 n2,h6.move (fun b o hb e=>k.look e (fun z=>hb (by rw[z];exact hx))) fun b hb=>.inl hb⟩
theorem cU.same {t:jt} {ms:List Addr} {H H':Hp} {l:Addr} {fs:List (Addr × Addr × Addr)} {fr:List Fr} (h:cU t ms H l fs fr) (s:qk H H'):cU t ms H' l fs fr:=⟨s _ _ h.el,h.lm,h.nd,Paired.imp' (fun _ _ z=>z.same s) h.at_,fun c hc=>by obtain⟨o,e⟩:=h.al c hc;exact⟨o,s _ _ e⟩⟩
theorem cU.add {t:jt} {ms:List Addr} {H H':Hp} {l c:Addr} {o:HO} {fs:List (Addr × Addr × Addr)} {fr:List Fr} (h:cU t ms H l fs fr) (s:qk H H') (hc:H c=none) (e:H' c=some o):cU t (c :: ms) H' l fs fr:=
 ⟨s _ _ h.el,List.mem_cons_of_mem _ h.lm,h.nd,Paired.imp' (fun _ _ z=>(z.more hc).same s) h.at_,fun x hx=>(List.mem_cons.mp hx).elim (fun z=>⟨o,by rw[z];exact e⟩) (fun z=>by obtain⟨o,e⟩:=h.al x z;exact⟨o,s _ _ e⟩)⟩
theorem dX {t:jt} {ms:List Addr} {H H':Hp} {x:Addr} {zs:List V} (k:Keeps x H H') (hx:x∈ms) (ex:H x=some (.lst zs)):∀{fs:List (Addr × Addr × Addr)} {fr:List Fr},x∉vV fs→Paired (sY t ms H) fs fr→Paired (sY t ms H') fs fr
 | _,_,_,.nil=>.nil
 | f :: fs,_,hn,.cons h r=>by
  have e:vV (f :: fs)=[f.2.1,f.2.2] ++ vV fs:=by simp [vV]
  rw[e] at hn
  refine .cons (h.keep k hx ex (fun z=>hn (by rw[←z];simp)) (fun z=>hn (by rw[←z];simp))) (dX k hx ex (fun z=>hn (List.mem_append_right _ z)) r)
theorem xS (f:Addr × Addr × Addr) (fs:List (Addr × Addr × Addr)):vV (f :: fs)=f.2.1 :: f.2.2 :: vV fs:=by simp [vV]
theorem cU.push {t:jt} {ms:List Addr} {H H':Hp} {l tp a b:Addr} {fs:List (Addr × Addr × Addr)} {fr:List Fr} {n:Str} {rs:List Str} (h:cU t ms H l fs fr) (ha:a∉l :: vV fs) (hb:b∉l :: vV fs) (hab:a≠b) (ham:a∈ms) (hbm:b∈ms) (et:H tp=some (.tup [.str n,.ref a,.ref b])) (ea:H a=some (.lst (rs.map V.str))) (eb:H b=some (.lst []))
  (k:Keeps l H H') (el:H' l=some (.lst (fs.reverse.map (fun f=>V.ref f.1) ++ [.ref tp]))):cU t ms H' l ((tp,a,b) :: fs) ((n,rs,[]) :: fr):=by
 have hln:l∉vV fs:=(List.nodup_cons.mp h.nd).1
 refine⟨?_,h.lm,?_,.cons ?_ (dX k h.lm h.el hln h.at_),uR h.al k ⟨_,el⟩⟩
 ·rw[el,List.reverse_cons,List.map_append];rfl
 ·rw[xS]
  have n0:=(List.nodup_cons.mp h.nd).2
  simp only[List.mem_cons,not_or] at ha hb
  simp only[List.nodup_cons,List.mem_cons,not_or]
  exact⟨⟨fun z=>ha.1 z.symm,fun z=>hb.1 z.symm,hln⟩,⟨hab,ha.2⟩,hb.2,n0⟩
 ·simp only[List.mem_cons,not_or] at ha hb
  exact⟨k.look et (yV et h.el (by intro z;cases z)),ham,hbm,k.look ea ha.1,[],k.look eb hb.1,by unfold jb;rfl⟩
theorem cU.row {t:jt} {ms:List Addr} {H H':Hp} {l:Addr} {f:Addr × Addr × Addr} {fs:List (Addr × Addr × Addr)} {n:Str} {rs:List Str} {rows:List Rw} {fr:List Fr} {r:Rw} {y:V} {ys:List V} (h:cU t ms H l (f :: fs) ((n,rs,rows) :: fr)) (hy:xP t ms H r y) (eb:H f.2.2=some (.lst ys))
  (k:Keeps f.2.2 H H') (e:H' f.2.2=some (.lst (ys ++ [y]))):cU t ms H' l (f :: fs) ((n,rs,rows ++ [r]) :: fr):=by
 have nd:=h.nd
 rw[xS] at nd
 simp only[List.nodup_cons,List.mem_cons,not_or] at nd
 match h.at_ with
 | .cons hf hr=>
  obtain⟨h1,h2,h3,h4,ys',h5,h6⟩:=hf
  rw[eb] at h5
  cases h5
  have fm:Fm ms H H':=fun b o hb e=>k.look e (fun z=>hb (by rw[z];exact h3))
  refine⟨k.look h.el nd.1.2.1,h.lm,h.nd,.cons ⟨k.look h1 (yV h1 eb (by intro z;cases z)),h2,h3,k.look h4 nd.2.1.1,_,e,?_⟩ (dX k h3 eb nd.2.2.1 hr),uR h.al k ⟨_,e⟩⟩
  exact jb.snoc (hy.move fm fun b hb=>.inl hb) (h6.move fm fun b hb=>.inl hb)
section
variable {P:Program} {w:World} {K:PySem.W.Frag} {mg:Str→Option Value} {base:Heap} {t:jt}
end
theorem cU.pop {t:jt} {ms:List Addr} {H H':Hp} {l:Addr} {f:Addr × Addr × Addr} {fs:List (Addr × Addr × Addr)} {g:Fr} {fr:List Fr} (h:cU t ms H l (f :: fs) (g :: fr)) (k:Keeps l H H') (el:H' l=some (.lst (fs.reverse.map fun f=>V.ref f.1))):cU t ms H' l fs fr∧sY t ms H' f g:=by
 have nd:=h.nd
 rw[xS] at nd
 simp only[List.nodup_cons,List.mem_cons,not_or] at nd
 match h.at_ with
 | .cons hf hr=>exact⟨⟨el,h.lm,List.nodup_cons.mpr ⟨nd.1.2.2,nd.2.2.2⟩,dX k h.lm h.el nd.1.2.2 hr,uR h.al k ⟨_,el⟩⟩,hf.keep k h.lm h.el (fun z=>nd.1.1 z.symm) (fun z=>nd.1.2.1 z.symm)⟩
theorem cU.off {t:jt} {ms:List Addr} {H H':Hp} {l x:Addr} {fs:List (Addr × Addr × Addr)} {fr:List Fr} {zs:List V} (h:cU t ms H l fs fr) (hx:x∈ms) (hn:x∉l :: vV fs) (ex:H x=some (.lst zs)) (k:Keeps x H H') (e:∃o,H' x=some o):cU t ms H' l fs fr:=by
 simp only[List.mem_cons,not_or] at hn
 exact⟨k.look h.el (fun z=>hn.1 z.symm),h.lm,h.nd,dX k hx ex hn.2 h.at_,uR h.al k e⟩
theorem cU.has {t:jt} {ms:List Addr} {H:Hp} {l:Addr} {fs:List (Addr × Addr × Addr)} {fr:List Fr} (h:cU t ms H l fs fr):∀x∈l :: vV fs,∃o,H x=some o:=by
 have key:∀{fs:List (Addr × Addr × Addr)} {fr:List Fr},Paired (sY t ms H) fs fr→∀x∈vV fs,∃o,H x=some o:=fun {fs fr} q=>by
  induction q with
  | nil=>intro x hx;cases hx
  | cons h _ ih=>
   intro x hx
   rw[xS] at hx
   obtain⟨_,_,_,h4,ys,h5,_⟩:=h
   (rcases List.mem_cons.mp hx with rfl | hx)
   ·exact⟨_,h4⟩
   (rcases List.mem_cons.mp hx with rfl | hx)
   ·exact⟨_,h5⟩
   ·exact ih x hx
 intro x hx
 (rcases List.mem_cons.mp hx with rfl | hx)
 ·exact⟨_,h.el⟩
 ·exact key h.at_ x hx
theorem cU.new {t:jt} {ms:List Addr} {H:Hp} {l c:Addr} {fs:List (Addr × Addr × Addr)} {fr:List Fr} (h:cU t ms H l fs fr) (hc:H c=none):c∉l :: vV fs:=fun z=>by
 obtain⟨o,e⟩:=h.has c z
 rw[hc] at e
 cases e
noncomputable def fQ:List Ew→List Fr × List Str→Option (List Fr × List Str)
 | [],s=>some s
 | e :: r,s=>(e.take s.1 s.2).bind (fQ r)
theorem lR:∀(a b:List Ew) (s:List Fr × List Str),fQ (a ++ b) s=(fQ a s).bind (fQ b)
 | [],b,s=>rfl
 | e :: r,b,s=>by
  rw[List.cons_append,fQ,fQ]
  cases e.take s.1 s.2 with
  | none=>rfl
  | some q=>exact lR r b q
theorem oH:∀{evs:List Ew} {d d':Nat} {fr:List Fr} {ls:List Str},aX d evs=some d'→fr.length=d + 1→d≤6→(ls ++ vg evs).Nodup→∃fr',fQ evs (fr,ls)=some (fr',ls ++ vg evs)∧fr'.length=d' + 1
 | [],d,d',fr,ls,h,hf,_,_=>by cases h;exact⟨fr,by simp [fQ,vg],hf⟩
 | e :: r,d,d',fr,ls,h,hf,h6,hn=>by
  rw[aX] at h
  cases hd:dp d e with
  | none=>(rw[hd] at h;cases h)
  | some d1=>
   rw[hd,Option.bind_some] at h
   have el:vg (e :: r)=hV e ++ vg r:=by simp [vg]
   rw[el] at hn ⊢
   have hnl:∀x∈hV e,x∉ls:=fun x hx q=>(List.nodup_append.mp hn).2.2 x q x (List.mem_append_left _ hx) rfl
   obtain⟨fr1,e1,l1,h61⟩:=Qo hd hf h6 hnl
   rw[←List.append_assoc] at hn ⊢
   obtain⟨fr',z,zl⟩:=oH h l1 h61 hn
   exact⟨fr',by rw[fQ];dsimp only;rw[e1];exact z,zl⟩
noncomputable def dJ:List Fr:=[("whole",[],[])]
theorem VR {evs:List Ew} (he:ai evs) (i:Nat):∃fr ls,fQ (evs.take i) (dJ,[])=some (fr,ls):=by
 obtain⟨fr,e,_⟩:=oH (fr:=dJ) (ls:=[]) he.dp rfl (by decide) (by simpa using he.nd)
 rw[←List.take_append_drop i evs,lR] at e
 cases q:fQ (evs.take i) (dJ,[]) with
 | none=>(rw[q] at e;cases e)
 | some s=>exact⟨s.1,s.2,rfl⟩
theorem Jm {evs:List Ew} (he:ai evs) {i:Nat} {e:Ew} (hi:evs[i]?=some e) {fr:List Fr} {ls:List Str} (h:fQ (evs.take i) (dJ,[])=some (fr,ls)):∃fr' ls',e.take fr ls=some (fr',ls')∧fQ (evs.take (i + 1)) (dJ,[])=some (fr',ls'):=by
 obtain⟨fr',ls',e1⟩:=VR he (i + 1)
 have e2:=e1
 rw[take_snoc hi,lR,h] at e2
 refine⟨fr',ls',?_,e1⟩
 have e3:(e.take fr ls).bind (fQ [])=some (fr',ls'):=e2
 cases q:e.take fr ls with
 | none=>rw[q] at e3;cases e3
 | some s=>rw[q] at e3;exact e3
theorem Kx {evs:List Ew} (he:ai evs) {fr:List Fr} {ls:List Str} (h:fQ evs (dJ,[])=some (fr,ls)):fr.length=1:=by
 obtain⟨fr',e,l⟩:=oH (fr:=dJ) (ls:=[]) he.dp rfl (by decide) (by simpa using he.nd)
 rw[h] at e
 cases e
 exact l
theorem QC:∀r:Rw,1≤(jx r).length
 | .lt a b=>by simp [jx]
 | .cl k l u a n r=>by
  rw[jx]
  split
  ·simp
  split
  ·simp
  split<;>simp
 | .pt n rs rows=>by simp [jx]
theorem bI:∀rows:List Rw,rows.length≤(qY rows).length
 | []=>by simp
 | r :: rs=>by
  have h1:=QC r
  have h2:=bI rs
  rw[qY,List.length_append,List.length_cons]
  omega
theorem g9 (n:Str) (rs:List Str) (rows:List Rw) (fr:List Fr):(qY rows).length≤(vn ((n,rs,rows) :: fr)).length:=by
 show _≤((if fr=[] then [] else vn fr ++ [Ew.pt n rs]) ++ qY rows).length
 rw[List.length_append]
 omega
noncomputable def GO (t:jt):Sp:=fun vs H Q _=>∃(le:Addr) (ws:List V) (evs:List Ew) (ex:List Addr),vs=[.ref le]∧H le=some (.lst ws)∧Paired (pG H) ws evs∧ai evs∧(∀c∈ex,∃o,H c=some o)∧
 ∀p rows H',qk H H'→qY rows=evs→yZ rows→wW rows≤6→xP t ex H' (.pt "whole" [] rows) (.ref p)→Q (.ref p) H'
section
variable {P:Program} {w:World} {K:PySem.W.Frag} {mg:Str→Option Value} {base:Heap} {t:jt}
theorem j6:qo ["_law_events_here","_law_stack","_law_event_here","_law_name_here","_law_rooms","_law_rows_here","_law_whole"] ["_law_events_here"] (z4 jV):=⟨rfl,rfl,rfl,by decide +kernel,rfl,by decide +kernel,by decide +kernel⟩
set_option maxHeartbeats 400000 in
theorem uC (T:Txt K mg t):qi P w K mg base jk 5 t.wz t.vI ["_law_events_here"] (GO t):=by
 have G_w_object:qi P w K mg base jk 4 t.bF t.bV ["_law_event_here"] (Ws t):=(eh T).mono (by decide)
 have M_Part_init:qi P w K mg base jk 3 t.xA t.kD ["self","name","rooms","rows"] (Kc K t):=(yF T).mono (by decide)
 refine T.wK.fn.ok j6 (fun vs H Q E h=>(by obtain⟨_,_,_,_,rfl,_⟩:=h;rfl)) (fun cdv A outer s H vs Q E hr h=>?_)
 obtain⟨le,ws,evs,ex,rfl,hL,hP,he,hex,kk⟩:=h
 refine⟨_,(z6 (qZ (i:=1) j6.nd rfl (Or.inl rfl) (qF (z0 (xm (z0 qq (z0 (qF z5) (z0 (qF z5) z5)))) z5)) vQ)
   (z6 (yJ PassesOwn.never rfl (vo (K:=K) rfl (pv 0)) (jC (i:=2) j6.nd rfl (Or.inl rfl))
    (z8 (PS.join (qP (ql jd (qy (qu (K:=K) rfl) (pv 2) z7 (fun _ _=>rfl)) qq (qe _))
    (z8 (q0 (ji PySem.F.plainAttrs_list PySem.F.slot_list_append PySem.F.type_list_append jv (pv 1) (z0 (xm (z0 (qy (qu (K:=K) rfl) (pv 2) z7 (fun _ _=>rfl)) (z0 (jn (wb (K:=K) rfl) rfl T.yI PyProof.Rows.boot_list (z0 (qy (qu (K:=K) rfl) (pv 2) z7 (fun _ _=>rfl)) z5)) (z0 (qF z5) z5)))) z5)))) (z8 (PS.join (qP (ql jd (qy (qu (K:=K) rfl) (pv 2) z7 (fun _ _=>rfl)) qq (qe _))
    (z6 (Zy (uz PySem.F.plainAttrs_list PySem.F.slot_list_pop PySem.F.type_list_pop aE (pv 1)) (cc (K:=K) rfl rfl (kN (jC (i:=3) j6.nd rfl (Or.inl rfl)) (kN (jC (i:=4) j6.nd rfl (Or.inl rfl)) (kN (jC (i:=5) j6.nd rfl (Or.inl rfl)) cu)))))
   (z6 (q0 (ji PySem.F.plainAttrs_list PySem.F.slot_list_append PySem.F.type_list_append jv (qy (qu (K:=K) rfl) (qy (qf (K:=K) rfl) (pv 1) (Qv ig z7) (fun _ _=>rfl)) z7 (fun _ _=>rfl)) (z0 (xr T.bD M_Part_init hr rfl T.p9 T.vW.bd .nil qQ (z0 (pv 3) (z0 (pv 4) (z0 (pv 5) z5)))) z5)))
   (z6 (q0 (ji PySem.F.plainAttrs_list PySem.F.slot_list_append PySem.F.type_list_append jv (pv 4) (z0 qq z5)))
   (z8 (q0 (uz PySem.F.plainAttrs_list PySem.F.slot_list_clear PySem.F.type_list_clear lX (pv 5))))))) (z8 (q0 (ji PySem.F.plainAttrs_list PySem.F.slot_list_append PySem.F.type_list_append jv (qy (qu (K:=K) rfl) (qy (qf (K:=K) rfl) (pv 1) (Qv ig z7) (fun _ _=>rfl)) z7 (fun _ _=>rfl)) (z0 (qm G_w_object hr rfl T.fB.mg T.fB.fn.kp T.fB.bd .nil qQ (z0 (pv 2) z5)) z5)))))))))))
   (z6 (qZ (i:=6) j6.nd rfl (Or.inl rfl) (xr T.bD M_Part_init hr rfl T.p9 T.vW.bd .nil qQ (z0 qq (z0 (qy (qu (K:=K) rfl) (qy (qf (K:=K) rfl) (pv 1) z7 (fun _ _=>rfl)) z7 (fun _ _=>rfl)) (z0 (qy (qu (K:=K) rfl) (qy (qf (K:=K) rfl) (pv 1) z7 (fun _ _=>rfl)) z7 (fun _ _=>rfl)) z5)))))
   (z6 (q0 (ji PySem.F.plainAttrs_list PySem.F.slot_list_append PySem.F.type_list_append jv (qy (qu (K:=K) rfl) (qy (qf (K:=K) rfl) (pv 1) z7 (fun _ _=>rfl)) z7 (fun _ _=>rfl)) (z0 qq z5)))
   (z6 (q0 (uz PySem.F.plainAttrs_list PySem.F.slot_list_clear PySem.F.type_list_clear lX (qy (qu (K:=K) rfl) (qy (qf (K:=K) rfl) (pv 1) z7 (fun _ _=>rfl)) z7 (fun _ _=>rfl))))
   (z8 (qw (pv 6)))))))),?_⟩
 have hwl:ws.length=evs.length:=Paired.length hP
 have hel:=he.len
 walk_at "rd"
 intro a0 H1 s1 ha0 e1
 walk_at "rd"
 intro b0 H2 s2 hb0 e2
 walk_at "rd"
 intro t0 H3 s3 ht0 e3
 walk_at "rd"
 intro l H4 s4 hl e4
 have sA:qk H H4:=((s1.trans s2).trans s3).trans s4
 have e14:=s4 _ _ (s3 _ _ (s2 _ _ e1))
 have e24:=s4 _ _ (s3 _ _ e2)
 have e34:=s4 _ _ e3
 have nab:a0≠b0:=qv e1 hb0
 have nal:a0≠l:=qv (s3 _ _ (s2 _ _ e1)) hl
 have nbl:b0≠l:=qv (s3 _ _ e2) hl
 have hSt:cU t ([l,a0,b0] ++ ex) H4 l [(t0,a0,b0)] dJ:=⟨e4,by simp,by
   simp only[vV,List.flatMap_cons,List.flatMap_nil,List.append_nil,List.nodup_cons,List.mem_cons,List.not_mem_nil,or_false,not_or,List.nodup_nil,and_true,not_false_eq_true]
   exact⟨⟨Ne.symm nal,Ne.symm nbl⟩,nab⟩,.cons ⟨e34,by simp,by simp,e14,[],e24,by unfold jb;rfl⟩ .nil,fun c hc=>by
   simp only[List.mem_append,List.mem_cons,List.not_mem_nil,or_false] at hc
   rcases hc with (rfl | rfl | rfl) | hc
   ·exact⟨_,e4⟩
   ·exact⟨_,e14⟩
   ·exact⟨_,e24⟩
   ·obtain⟨o,e⟩:=hex c hc
    exact⟨o,sA _ _ e⟩⟩
 have hms:∀c∈l :: vV [(t0,a0,b0)],H c=none:=fun c hc=>by
  simp only[vV,List.flatMap_cons,List.flatMap_nil,List.append_nil,List.mem_cons,List.not_mem_nil,or_false] at hc
  rcases hc with rfl | rfl | rfl
  ·exact((s1.trans s2).trans s3).free hl
  ·exact ha0
  ·exact s1.free hb0
 clear e1 e2 e3 e4 e14 e24 e34 nab nal nbl s1 s2 s3 s4
 show pS 1 (V.ref l) [some (.ref le),none,none,none,none,none,none] _ _
 walk_at "rd"
 have hL4:=sA _ _ hL
 refine tK (K:=K) (a:=le) (xs:=ws) (fun i σ H'=>(∃(ms:List Addr) (fs:List (Addr × Addr × Addr)) (fr:List Fr) (ls:List Str) (v2 v3 v4 v5:Option V),σ=[some (.ref le),some (.ref l),v2,v3,v4,v5,none]∧qk H H'∧(∀c∈l :: vV fs,H c=none)∧(∀c∈ex,c∈ms)∧cU t ms H' l fs fr∧uW fr∧vn fr=evs.take i∧fQ (evs.take i) (dJ,[])=some (fr,ls))∨False)
  ?_ ?_ ?_ ?_
 ·refine .inl ⟨_,_,dJ,[],none,none,none,none,rfl,sA,hms,fun c hc=>List.mem_append_right _ hc,hSt,?_,?_,rfl⟩
  ·exact⟨by rw[wW];decide,by rw[yZ];exact True.intro,by rw[if_pos rfl];exact⟨rfl,rfl⟩⟩
  ·show (if ([]:List Fr)=[] then [] else _) ++ qY []=_
   rw[if_pos rfl,qY]
   rfl
 ·intro i σ H' _ q
  obtain⟨_,_,_,_,_,_,_,_,_,z,_⟩:=q.resolve_right (fun z=>z)
  exact qD.of (z _ _ hL)
 ·intro i y σ H5 hi q
  obtain⟨ms,fs,fr,ls,v2,v3,v4,v5,rfl,s5,hm5,hx5,h5,hfo,hff,hrn⟩:=q.resolve_right (fun z=>z)
  clear q
  obtain⟨e,hei,hE0⟩:=Paired.Q8 hP hi
  have hE:=hE0.same s5
  obtain⟨fr',ls',uO,hrn'⟩:=Jm he hei hrn
  obtain⟨hfo',hff'⟩:=nJ hfo uO
  rw[hff,←take_snoc hei] at hff'
  have hfl:=hfo.len
  have hfs:fs.length=fr.length:=Paired.length h5.at_
  have hlH:=hm5 l (by simp)
  have hend:∀{ms':List Addr} {fs':List (Addr × Addr × Addr)} {v2 v3 v4 v5:Option V} {H':Hp},qk H H'→(∀c∈l :: vV fs',H c=none)→(∀c∈ex,c∈ms')→cU t ms' H' l fs' fr'→(∃(ms:List Addr) (fs:List (Addr × Addr × Addr)) (fr:List Fr) (ls:List Str) (w2 w3 w4 w5:Option V),[some (V.ref le),some (V.ref l),v2,v3,v4,v5,none]=[some (.ref le),some (.ref l),w2,w3,w4,w5,none]∧qk H H'∧(∀c∈l :: vV fs,H c=none)∧(∀c∈ex,c∈ms)∧cU t ms H' l fs fr∧uW fr∧vn fr=evs.take (i + 1)∧fQ (evs.take (i + 1)) (dJ,[])=some (fr,ls))∨False:=fun s hm hx hs=>.inl ⟨_,_,fr',ls',_,_,_,_,rfl,s,hm,hx,hs,hfo',hff',hrn'⟩
  refine⟨_,?_,fun _ _ z=>z⟩
  by_cases hpl:XO e=true
  ·have hfr:fr'=push fr (Zp e):=by
    cases e with
    | pt n rs=>cases hpl
    | dn=>cases hpl
    | lt a b=>cases uO;rfl
    | mu l w a n r=>rw[Ew.take] at uO;split at uO<;>cases uO;rfl
    | my l w a=>rw[Ew.take] at uO;split at uO<;>cases uO;rfl
    | bn l w a r=>rw[Ew.take] at uO;split at uO<;>cases uO;rfl
    | pw l w a r=>rw[Ew.take] at uO;split at uO<;>cases uO;rfl
   have hnn:∃f fs0 n1 rs1 rows1 fr1,fs=f :: fs0∧fr=(n1,rs1,rows1) :: fr1:=by
    match fr,fs,h5.at_,hfo with
    | (n1,rs1,rows1) :: fr1,f :: fs0,_,_=>exact⟨f,fs0,n1,rs1,rows1,fr1,rfl,rfl⟩
   cases e with
   | pt n rs=>cases hpl
   | dn=>cases hpl
   | lt a b=>
    have hE':=hE
    obtain⟨q,rfl,eq⟩:=hE
    walk_at "rd"
    refine⟨_,?_,fun _ _ z=>z⟩
    walk_at "rd"
    obtain⟨f,fs0,n1,rs1,rows1,fr1,rfl,rfl⟩:=hnn
    have h5l:=h5.el
    rw[List.reverse_cons,List.map_append] at h5l
    obtain⟨f1,f2,f3,f4,ys,f5,f6⟩:sY t ms H5 f (n1,rs1,rows1):=by
     match h5.at_ with
     | .cons hf _=>exact hf
    have hyl:ys.length≤66:=by
     have g1:=f6.len
     have g2:=bI rows1
     have g3:=g9 n1 rs1 rows1 fr1
     have g4:=congrArg List.length hff
     rw[List.length_take] at g4
     dsimp only at g1
     omega
    refine⟨l,_,_,_,rfl,rfl,qD.of h5l,yO _ _,?_⟩
    refine⟨f.1,_,_,_,rfl,rfl,yy.of f1,rfl,?_⟩
    refine⟨.inl ⟨rfl,_,qD.of f5⟩,?_⟩
    refine⟨_,rfl,.ref q,_,rfl,hE',rfl,fun p6 H6 s6 hp6 hRw=>?_⟩
    have hp6m:p6∉ms:=fun z=>by
     obtain⟨o,e⟩:=h5.al p6 z
     rw[hp6] at e
     cases e
    refine⟨f.2.2,_,_,rfl,rfl,s6 _ _ f5,qj (by omega),?_⟩
    intro H7 k7 e7
    refine hend (fs':=f :: fs0) (k7.put (s5.trans s6) (hm5 _ (by simp [vV]))) hm5 hx5 ?_
    rw[hfr]
    exact(h5.same s6).row (hRw ms hp6m) (s6 _ _ f5) k7 e7
   | mu l1 u a n r=>
    have hE':=hE
    obtain⟨q,rfl,eq⟩:=hE
    walk_at "rd"
    refine⟨_,?_,fun _ _ z=>z⟩
    walk_at "rd"
    obtain⟨f,fs0,n1,rs1,rows1,fr1,rfl,rfl⟩:=hnn
    have h5l:=h5.el
    rw[List.reverse_cons,List.map_append] at h5l
    obtain⟨f1,f2,f3,f4,ys,f5,f6⟩:sY t ms H5 f (n1,rs1,rows1):=by
     match h5.at_ with
     | .cons hf _=>exact hf
    have hyl:ys.length≤66:=by
     have g1:=f6.len
     have g2:=bI rows1
     have g3:=g9 n1 rs1 rows1 fr1
     have g4:=congrArg List.length hff
     rw[List.length_take] at g4
     dsimp only at g1
     omega
    refine⟨l,_,_,_,rfl,rfl,qD.of h5l,yO _ _,?_⟩
    refine⟨f.1,_,_,_,rfl,rfl,yy.of f1,rfl,?_⟩
    refine⟨.inl ⟨rfl,_,qD.of f5⟩,?_⟩
    refine⟨_,rfl,.ref q,_,rfl,hE',rfl,fun p6 H6 s6 hp6 hRw=>?_⟩
    have hp6m:p6∉ms:=fun z=>by
     obtain⟨o,e⟩:=h5.al p6 z
     rw[hp6] at e
     cases e
    refine⟨f.2.2,_,_,rfl,rfl,s6 _ _ f5,qj (by omega),?_⟩
    intro H7 k7 e7
    refine hend (fs':=f :: fs0) (k7.put (s5.trans s6) (hm5 _ (by simp [vV]))) hm5 hx5 ?_
    rw[hfr]
    exact(h5.same s6).row (hRw ms hp6m) (s6 _ _ f5) k7 e7
   | my l1 u a=>
    have hE':=hE
    obtain⟨q,rfl,eq⟩:=hE
    walk_at "rd"
    refine⟨_,?_,fun _ _ z=>z⟩
    walk_at "rd"
    obtain⟨f,fs0,n1,rs1,rows1,fr1,rfl,rfl⟩:=hnn
    have h5l:=h5.el
    rw[List.reverse_cons,List.map_append] at h5l
    obtain⟨f1,f2,f3,f4,ys,f5,f6⟩:sY t ms H5 f (n1,rs1,rows1):=by
     match h5.at_ with
     | .cons hf _=>exact hf
    have hyl:ys.length≤66:=by
     have g1:=f6.len
     have g2:=bI rows1
     have g3:=g9 n1 rs1 rows1 fr1
     have g4:=congrArg List.length hff
     rw[List.length_take] at g4
     dsimp only at g1
     omega
    refine⟨l,_,_,_,rfl,rfl,qD.of h5l,yO _ _,?_⟩
    refine⟨f.1,_,_,_,rfl,rfl,yy.of f1,rfl,?_⟩
    refine⟨.inl ⟨rfl,_,qD.of f5⟩,?_⟩
    refine⟨_,rfl,.ref q,_,rfl,hE',rfl,fun p6 H6 s6 hp6 hRw=>?_⟩
    have hp6m:p6∉ms:=fun z=>by
     obtain⟨o,e⟩:=h5.al p6 z
     rw[hp6] at e
     cases e
    refine⟨f.2.2,_,_,rfl,rfl,s6 _ _ f5,qj (by omega),?_⟩
    intro H7 k7 e7
    refine hend (fs':=f :: fs0) (k7.put (s5.trans s6) (hm5 _ (by simp [vV]))) hm5 hx5 ?_
    rw[hfr]
    exact(h5.same s6).row (hRw ms hp6m) (s6 _ _ f5) k7 e7
   | bn l1 u a r=>
    have hE':=hE
    obtain⟨q,rfl,eq⟩:=hE
    walk_at "rd"
    refine⟨_,?_,fun _ _ z=>z⟩
    walk_at "rd"
    obtain⟨f,fs0,n1,rs1,rows1,fr1,rfl,rfl⟩:=hnn
    have h5l:=h5.el
    rw[List.reverse_cons,List.map_append] at h5l
    obtain⟨f1,f2,f3,f4,ys,f5,f6⟩:sY t ms H5 f (n1,rs1,rows1):=by
     match h5.at_ with
     | .cons hf _=>exact hf
    have hyl:ys.length≤66:=by
     have g1:=f6.len
     have g2:=bI rows1
     have g3:=g9 n1 rs1 rows1 fr1
     have g4:=congrArg List.length hff
     rw[List.length_take] at g4
     dsimp only at g1
     omega
    refine⟨l,_,_,_,rfl,rfl,qD.of h5l,yO _ _,?_⟩
    refine⟨f.1,_,_,_,rfl,rfl,yy.of f1,rfl,?_⟩
    refine⟨.inl ⟨rfl,_,qD.of f5⟩,?_⟩
    refine⟨_,rfl,.ref q,_,rfl,hE',rfl,fun p6 H6 s6 hp6 hRw=>?_⟩
    have hp6m:p6∉ms:=fun z=>by
     obtain⟨o,e⟩:=h5.al p6 z
     rw[hp6] at e
     cases e
    refine⟨f.2.2,_,_,rfl,rfl,s6 _ _ f5,qj (by omega),?_⟩
    intro H7 k7 e7
    refine hend (fs':=f :: fs0) (k7.put (s5.trans s6) (hm5 _ (by simp [vV]))) hm5 hx5 ?_
    rw[hfr]
    exact(h5.same s6).row (hRw ms hp6m) (s6 _ _ f5) k7 e7
   | pw l1 u a r=>
    have hE':=hE
    obtain⟨q,rfl,eq⟩:=hE
    walk_at "rd"
    refine⟨_,?_,fun _ _ z=>z⟩
    walk_at "rd"
    obtain⟨f,fs0,n1,rs1,rows1,fr1,rfl,rfl⟩:=hnn
    have h5l:=h5.el
    rw[List.reverse_cons,List.map_append] at h5l
    obtain⟨f1,f2,f3,f4,ys,f5,f6⟩:sY t ms H5 f (n1,rs1,rows1):=by
     match h5.at_ with
     | .cons hf _=>exact hf
    have hyl:ys.length≤66:=by
     have g1:=f6.len
     have g2:=bI rows1
     have g3:=g9 n1 rs1 rows1 fr1
     have g4:=congrArg List.length hff
     rw[List.length_take] at g4
     dsimp only at g1
     omega
    refine⟨l,_,_,_,rfl,rfl,qD.of h5l,yO _ _,?_⟩
    refine⟨f.1,_,_,_,rfl,rfl,yy.of f1,rfl,?_⟩
    refine⟨.inl ⟨rfl,_,qD.of f5⟩,?_⟩
    refine⟨_,rfl,.ref q,_,rfl,hE',rfl,fun p6 H6 s6 hp6 hRw=>?_⟩
    have hp6m:p6∉ms:=fun z=>by
     obtain⟨o,e⟩:=h5.al p6 z
     rw[hp6] at e
     cases e
    refine⟨f.2.2,_,_,rfl,rfl,s6 _ _ f5,qj (by omega),?_⟩
    intro H7 k7 e7
    refine hend (fs':=f :: fs0) (k7.put (s5.trans s6) (hm5 _ (by simp [vV]))) hm5 hx5 ?_
    rw[hfr]
    exact(h5.same s6).row (hRw ms hp6m) (s6 _ _ f5) k7 e7
  cases e with
  | lt a b=>exact absurd rfl hpl
  | mu l w a n r=>exact absurd rfl hpl
  | my l w a=>exact absurd rfl hpl
  | bn l w a r=>exact absurd rfl hpl
  | pw l w a r=>exact absurd rfl hpl
  | pt n rs=>
   obtain⟨q,r,rfl,eq,er⟩:=hE
   rw[Ew.take] at uO
   split at uO
   ·cases uO
   cases uO
   walk_at "rd"
   refine⟨.inl ⟨rfl,_,qD.of h5.el⟩,?_⟩
   walk_at "rd"
   refine⟨r,_,rfl,.inl (qD.of er),?_⟩
   intro a6 H6 s6 ha6 e6
   walk_at "rd"
   intro b7 H7 s7 hb7 e7
   walk_at "rd"
   intro t8 H8 s8 ht8 e8
   have h8:cU t (b7 :: a6 :: ms) H8 l fs fr:=((h5.add s6 ha6 e6).add s7 hb7 e7).same s8
   refine⟨l,_,_,rfl,rfl,h8.el,qj (by rw[List.length_map,List.length_reverse];omega),?_⟩
   intro H9 k9 e9
   refine hend (k9.put (((s5.trans s6).trans s7).trans s8) hlH) (fun c hc=>?_) (fun c hc=>List.mem_cons_of_mem _ (List.mem_cons_of_mem _ (hx5 c hc))) (h8.push (h5.new ha6) ((h5.same s6).new hb7) (qv e6 hb7) (by simp) (by simp) e8 (s8 _ _ (s7 _ _ e6)) (s8 _ _ e7) k9 e9)
   rw[xS] at hc
   (rcases List.mem_cons.mp hc with rfl | hc)
   ·exact hlH
   (rcases List.mem_cons.mp hc with rfl | hc)
   ·exact s5.free ha6
   (rcases List.mem_cons.mp hc with rfl | hc)
   ·exact(s5.trans s6).free hb7
   ·exact hm5 c (List.mem_cons_of_mem _ hc)
  | dn=>
   obtain⟨q,rfl,eq⟩:=hE
   obtain⟨n1,rs1,rows1,n2,rs2,rows2,fr2,hfr⟩:∃n1 rs1 rows1 n2 rs2 rows2 fr2,fr=(n1,rs1,rows1) :: (n2,rs2,rows2) :: fr2:=by
    match fr,uO with
    | (a1,a2,a3) :: (b1,b2,b3) :: r,_=>exact⟨a1,a2,a3,b1,b2,b3,r,rfl⟩
    | [_],h=>cases h
    | [],h=>cases h
   subst hfr
   cases uO
   obtain⟨f,f',fs2,rfl⟩:∃f f' fs2,fs=f :: f' :: fs2:=by
    match fs,h5.at_ with
    | f :: f' :: r,_=>exact⟨f,f',r,rfl⟩
   have h5l:=h5.el
   rw[List.reverse_cons,List.map_append] at h5l
   walk_at "rd"
   refine⟨_,?_,fun _ _ z=>z⟩
   walk_at "rd"
   have hpt:(Ew.pt n1 rs1).ok:=he.ok _ (List.mem_of_mem_take (i:=i) (by
    rw[←hff]
    show _∈(if ((n2,rs2,rows2) :: fr2:List Fr)=[] then [] else vn ((n2,rs2,rows2) :: fr2) ++ [Ew.pt n1 rs1]) ++ qY rows1
    rw[if_neg (by simp)]
    simp))
   have hrl:=hpt.2.2
   have nd:=h5.nd
   rw[xS,xS] at nd
   simp only[List.nodup_cons,List.mem_cons,not_or] at nd
   refine⟨l,_,V.ref f.1,rfl,rfl,h5l,by simp,?_⟩
   intro H6 k6 e6
   have e6':H6 l=some (.lst ((f' :: fs2).reverse.map fun f=>V.ref f.1)):=by rw[e6];simp
   obtain⟨h6,hf6⟩:=h5.pop k6 e6'
   obtain⟨f1,f2,f3,f4,ys,f5,f6⟩:=hf6
   obtain⟨u1,u2,u3,u4,ys2,u5,u6⟩:sY t ms H6 f' (n2,rs2,rows2):=by
    match h6.at_ with
    | .cons hf _=>exact hf
   have hyl:ys2.length≤66:=by
    have g1:=u6.len
    have g2:=bI rows2
    have g3:=g9 n2 rs2 rows2 fr2
    have g4:=congrArg List.length hff
    have g5:(vn ((n2,rs2,rows2) :: fr2)).length≤(vn ((n1,rs1,rows1) :: (n2,rs2,rows2) :: fr2)).length:=by
     show _≤((if ((n2,rs2,rows2) :: fr2:List Fr)=[] then [] else vn ((n2,rs2,rows2) :: fr2) ++ [Ew.pt n1 rs1]) ++ qY rows1).length
     rw[if_neg (by simp),List.length_append,List.length_append]
     omega
    rw[List.length_take] at g4
    dsimp only at g1
    omega
   have h6l:=e6'
   rw[List.reverse_cons,List.map_append] at h6l
   walk_at "rd"
   refine⟨l,_,_,_,rfl,rfl,qD.of h6l,yO _ _,?_⟩
   refine⟨f'.1,_,_,_,rfl,rfl,yy.of u1,rfl,?_⟩
   refine⟨.inl ⟨rfl,_,qD.of u5⟩,?_⟩
   walk_at "rd"
   intro p dx hp hdx hne
   have sM:=wj (o:=HO.own p) (o2:=HO.ins t.qH dx []) hp hdx
   refine⟨p,dx,f.2.1,f.2.2,n1,rs1,ys,rfl,qx,sM _ _ f4,sM _ _ f5,fun H7 o7 h7=>⟨rfl,?_⟩⟩
   have s67:qk H6 H7:=dN hp hdx o7
   obtain⟨dx7,a7,b7,g1,g2,g3,g4,g5⟩:=h7.back sM
   have hnm:∀{c:Addr},H6 c=none→c∉ms:=fun hc z=>by
    obtain⟨o,e⟩:=h6.al _ z
    rw[hc] at e
    cases e
   have hRw:xP t ms H7 (.pt n1 rs1 rows1) (.ref p):=by
    unfold xP
    exact⟨p,dx7,a7,b7,ys,rfl,hnm hp,hnm g4,hnm g5,g1,g2,g3,f6.move (Fm.of s67) fun c hc=>.inl hc⟩
   refine⟨f'.2.2,_,_,rfl,rfl,s67 _ _ u5,qj (by omega),?_⟩
   intro H8 k8 e8
   have h8:=(h6.same s67).row hRw (s67 _ _ u5) k8 e8
   have f48:=k8.look (s67 _ _ f4) nd.2.1.2.2.1
   have f58:=k8.look (s67 _ _ f5) nd.2.2.1.2.1
   walk_at "rd"
   intro H9 k9 e9
   have h9:=h8.off f2 (by rw[xS];simp only[List.mem_cons,not_or];exact⟨fun z=>nd.1.1 z.symm,nd.2.1.2.1,nd.2.1.2.2.1,nd.2.1.2.2.2⟩) f48 k9 ⟨_,e9⟩
   have f59:=k9.look f58 (fun z=>nd.2.1.1 z.symm)
   walk_at "rd"
   try (refine⟨f.2.2,_,rfl,rfl,f59,?_⟩)
   intro H10 k10 e10
   have h10:=h9.off f3 (by rw[xS];simp only[List.mem_cons,not_or];exact⟨fun z=>nd.1.2.1 z.symm,nd.2.2.1.1,nd.2.2.1.2.1,nd.2.2.1.2.2⟩) f59 k10 ⟨_,e10⟩
   exact hend (k10.put (k9.put (k8.put ((k6.put s5 hlH).trans s67) (hm5 _ (by simp [vV]))) (hm5 _ (by simp [vV]))) (hm5 _ (by simp [vV]))) (fun c hc=>hm5 c (by rw[xS];simp only[List.mem_cons] at hc ⊢;exact hc.elim .inl fun z=>.inr (.inr (.inr z)))) hx5 h10
 ·intro σ H5 q
  obtain⟨ms,fs,fr,ls,v2,v3,v4,v5,rfl,s5,hm5,hx5,h5,hfo,hff,hrn⟩:=q.resolve_right (fun z=>z)
  clear q
  rw[hwl,List.take_length] at hff hrn
  have hl1:=Kx he hrn
  obtain⟨f,rows,rfl,rfl⟩:∃(f:Addr × Addr × Addr) (rows:List Rw),fs=[f]∧fr=[((("whole" : Str),([]:List Str),rows):Fr)]:=by
   match fr,fs,h5.at_,hfo,hl1 with
   | [(n1,rs1,rows1)],[f],_,hfo,_=>
    have h3:=hfo.2.2
    rw[if_pos rfl] at h3
    exact⟨f,rows1,rfl,by rw[h3.1,h3.2]⟩
  have hrows:qY rows=evs:=by
   rw[←hff]
   show _=(if ([]:List Fr)=[] then [] else _) ++ qY rows
   rw[if_pos rfl]
   rfl
  have hk2:=hfo.2.1
  have hd2:wW rows≤6:=by have:=hfo.1;omega
  obtain⟨f1,f2,f3,f4,ys,f5,f6⟩:sY t ms H5 f ("whole",[],rows):=by
   match h5.at_ with
   | .cons hf _=>exact hf
  have el:H5 l=some (.lst [V.ref f.1]):=h5.el
  have nd:=h5.nd
  rw[xS] at nd
  simp only[List.nodup_cons,List.mem_cons,not_or] at nd
  walk_at "rd"
  refine⟨l,_,_,_,rfl,rfl,qD.of el,rfl,?_⟩
  refine⟨f.1,_,_,_,rfl,rfl,yy.of f1,rfl,?_⟩
  walk_at "rd"
  refine⟨l,_,_,_,rfl,rfl,qD.of el,rfl,?_⟩
  refine⟨f.1,_,_,_,rfl,rfl,yy.of f1,rfl,?_⟩
  walk_at "rd"
  intro p dx hp hdx hne
  have sM:=wj (o:=HO.own p) (o2:=HO.ins t.qH dx []) hp hdx
  refine⟨p,dx,f.2.1,f.2.2,"whole",[],ys,rfl,qx,sM _ _ f4,sM _ _ f5,fun H7 o7 h7=>⟨rfl,?_⟩⟩
  have s57:qk H5 H7:=dN hp hdx o7
  obtain⟨dx7,a7,b7,g1,g2,g3,g4,g5⟩:=h7.back sM
  have el7:=s57 _ _ el
  have f17:=s57 _ _ f1
  have f47:=s57 _ _ f4
  have f57:=s57 _ _ f5
  walk_at "rd"
  refine⟨l,_,_,_,rfl,rfl,qD.of el7,rfl,?_⟩
  refine⟨f.1,_,_,_,rfl,rfl,yy.of f17,rfl,?_⟩
  refine⟨.inl ⟨rfl,_,qD.of f47⟩,?_⟩
  refine⟨f.2.1,_,_,rfl,rfl,f47,qj (by simp only[List.map_nil,List.length_nil];omega),?_⟩
  intro H8 k8 e8
  have el8:=k8.look el7 (fun z=>nd.1.1 z)
  have f18:=k8.look f17 (yV f17 f47 (by intro z;cases z))
  have f58:=k8.look f57 (fun z=>nd.2.1.1 z.symm)
  walk_at "rd"
  refine⟨l,_,_,_,rfl,rfl,qD.of el8,rfl,?_⟩
  refine⟨f.1,_,_,_,rfl,rfl,yy.of f18,rfl,?_⟩
  refine⟨.inl ⟨rfl,_,qD.of f58⟩,?_⟩
  refine⟨f.2.2,_,rfl,rfl,f58,?_⟩
  intro H9 k9 e9
  have na7:a7≠f.2.1:=fun z=>by rw[z,f4] at g4;cases g4
  have na8:a7≠f.2.2:=fun z=>by rw[z,f5] at g4;cases g4
  have nb7:b7≠f.2.1:=fun z=>by rw[z,f4] at g5;cases g5
  have nb8:b7≠f.2.2:=fun z=>by rw[z,f5] at g5;cases g5
  have g19:=k9.look (k8.look g1 (yV g1 f47 (by intro z;cases z))) (yV g1 f57 (by intro z;cases z))
  have g29:=k9.look (k8.look g2 na7) na8
  have g39:=k9.look (k8.look g3 nb7) nb8
  have sE:qk H H9:=k9.put (k8.put (s5.trans s57) (hm5 _ (by simp [vV]))) (hm5 _ (by simp [vV]))
  have hR9:jb t ex H9 rows ys:=f6.move (fun c o hc e=>k9.look (k8.look (s57 _ _ e) (fun z=>hc (by rw[z];exact f2))) (fun z=>hc (by rw[z];exact f3))) fun c hc=>.inl (hx5 c hc)
  have hne5:∀{c:Addr},H5 c=none→c∉ex:=fun hc z=>by
   obtain⟨o,e⟩:=h5.al _ (hx5 _ z)
   rw[hc] at e
   cases e
  walk_at "rd"
  refine kk p rows H9 sE hrows hk2 hd2 ?_
  unfold xP
  exact⟨p,dx7,a7,b7,ys,rfl,hne5 hp,hne5 g4,hne5 g5,g19,g29,g39,hR9⟩
end
theorem Y4 {c:Int} {ys:List V} (hlen:ys.length=104) (hp:∀(i:Nat) (v:V),i < 104→ys[i]?=some v→v=.str (cE c (i:Int))):ys=(NN c).map V.str:=by
 apply List.ext_getElem?
 intro i
 by_cases hi:i < 104
 ·have hi':i < ys.length:=by omega
  rw[List.getElem?_eq_getElem hi',List.getElem?_map]
  unfold NN
  rw[List.getElem?_map,List.getElem?_range hi]
  exact congrArg some (hp i _ hi (List.getElem?_eq_getElem hi'))
 ·rw[List.getElem?_eq_none_iff.mpr (by omega),List.getElem?_eq_none_iff.mpr (by rw[List.length_map,nB];omega)]
theorem iL {rows:List Str} (hF:∀x∈rows,aZ x) (hl:rows.length≤150):(rows.map (·.length)).sum + rows.length * (Str.ofString "; ").length≤30000:=by
 have h1:=Zt (n:=180) (xs:=rows) fun x hx=>(hF x hx).sh
 have h2:(Str.ofString "; ").length=2:=by decide +kernel
 rw[h2]
 omega
theorem Vh {P:Program} {w:World} {K:PySem.W.Frag} {mg:Str→Option Value} {base:Heap} {k:Nat} {f:Addr} {fd:FuncData} {ps:List Str} {sp sp':Sp} (F:qi P w K mg base (ar P w) k f fd ps sp) (h:∀vs H Q E,sp' vs H Q E→sp vs H Q E0):qi P w K mg base jk k f fd ps sp':=
 ⟨fun vs H Q E q=>F.len vs H Q E0 (h vs H Q E q),fun A outer s H args us vs Q E hr he hb hv hs=>codeAny_mono (F.run A outer s H args us vs Q E0 hr he hb hv (h _ _ _ _ hs)) fun r s' q=>by
  cases r with
  | error e=>obtain⟨_,_,_,_,_,_,_,_,_,_,_,z⟩:=q;exact z.elim
  | ok fl=>cases fl<;>exact q⟩
noncomputable def cY (t:jt):Sp:=fun vs H Q _=>∃(rows:List Str) (ps as:List Str) (qR:List (Str × Str)) (rw:Rw),vs=[.str (Txt.join (Str.ofString "; ") rows)]∧rows≠[]∧(∀x∈rows,aZ x)∧rows.length≤150∧pZ rows=.ok (ps,as,qR,rw)∧∀p H',qk H H'→gU t H' p ps as qR rw→Q (.ref p) H'
theorem Yn {t:jt} {vs:List V} {H:Hp} {Q:VK} {E:XK} (h:cY t vs H Q E):Kn t vs H Q E0:=by
 obtain⟨rows,ps,as,qR,rw,rfl,hne,hF,hl,hr,k⟩:=h
 have hsp:Txt.split (Txt.join (Str.ofString "; ") rows) (Str.ofString "; ")=rows:=Jf hne fun x hx=>(hF x hx).fr
 have h1:=iL hF hl
 have h2:=iR (Str.ofString "; ") rows
 refine⟨_,rfl,by omega,by rw[hsp];exact⟨by omega,fun x hx=>Nat.le_trans (hF x hx).sh (by decide)⟩,fun n e=>?_,fun ps' as' rms' rw' p H' e s hA=>?_⟩
 ·rw[hsp,hr] at e
  cases e
 ·rw[hsp,hr] at e
  cases e
  exact k p H' s hA
theorem Yt {t:jt} {rows ps as:List Str} {qR:List (Str × Str)} {rw:Rw} {H:Hp} {Q:VK} {E:XK} (hne:rows≠[]) (hF:∀x∈rows,aZ x) (hl:rows.length≤150) (hr:pZ rows=.ok (ps,as,qR,rw)) (k:∀p H',qk H H'→gU t H' p ps as qR rw→Q (.ref p) H'):cY t [.str (Txt.join (Str.ofString "; ") rows)] H Q E:=⟨rows,ps,as,qR,rw,rfl,hne,hF,hl,hr,k⟩
theorem Jp (ps as:List Str) (qR:List (Str × Str)) (evs:List Ew):rowsOf ps as qR evs≠[]:=by unfold rowsOf;simp
theorem gU.same {t:jt} {H H':Hp} {p:Addr} {ps as:List Str} {qR:List (Str × Str)} {rw:Rw} (h:gU t H p ps as qR rw) (s:qk H H'):gU t H' p ps as qR rw:=by
 obtain⟨dx,a,b,c,x,vs,e1,e2,e3,e4,h5,h6⟩:=h
 exact⟨dx,a,b,c,x,vs,s _ _ e1,s _ _ e2,s _ _ e3,s _ _ e4,Paired.imp' (fun _ _ z=>z.same s) h5,h6.move (Fm.of s) fun _ h=>.inl h⟩
theorem Xk {K:PySem.W.Frag} {a b:Addr} {xs ys:List V} {E:L2.St→Hp→Prop} {B:V→L2.St→Hp→(L2.St→Hp→Prop)→Prop} {σ:L2.St} {H:Hp} (Pv:Nat→L2.St→Hp→Prop) (hn:xs.length=ys.length) (h0:Pv 0 σ H) (hl:∀i σ H,i≤xs.length→Pv i σ H→qD K H a xs∧qD K H b ys)
  (hs:∀i x y σ H tp,xs[i]?=some x→ys[i]?=some y→Pv i σ H→H tp=none→B (.ref tp) σ (upd H tp (.tup [x,y])) (Pv (i + 1))) (hd:∀σ H,Pv xs.length σ H→E σ H) :
  ∃W:Nat→Nat→L2.St→Hp→Prop,(∃m,W 0 m σ H)∧∀i m σ H,W i m σ H→
   ((YT K a b).stop i H∧E σ H)∨((YT K a b).go i H∧∃N:L2.St→Hp→Prop,(∀σ' H',N σ' H'→∃m',m' < m∧W (i + 1) m' σ' H')∧∀x H',(YT K a b).K1 i H x H'→B x σ H' N):=by
 (refine⟨fun i m σ H=>m=xs.length - i∧i≤xs.length∧Pv i σ H,⟨xs.length,by simp,Nat.zero_le _,h0⟩,?_⟩)
 rintro i m σ H ⟨rfl,hi,p⟩
 obtain⟨q1,q2⟩:=hl i σ H hi p
 by_cases hlt:i < xs.length
 ·refine .inr ⟨⟨xs,ys,xs[i],ys[i]'(by omega),q1,q2,List.getElem?_eq_getElem hlt,List.getElem?_eq_getElem (by omega)⟩,Pv (i + 1),fun σ' H' p'=>⟨xs.length - (i + 1),by omega,rfl,hlt,p'⟩,fun v H' z=>?_⟩
  obtain⟨tp,x,y,ht,rfl,rfl,h1,h2⟩:=z
  exact hs i x y σ H tp (h1 xs q1) (h2 ys q2) p ht
 ·(have e:i=xs.length:=by omega)
  subst e
  exact .inl ⟨⟨xs,ys,q1,q2,.inl (Nat.le_refl _)⟩,hd σ H p⟩
theorem Zg {K:PySem.W.Frag} {H:Hp}:∀{vs:List V} {qR:List (Str × Str)},Paired (wo H) vs qR→yv K H vs (qR.map nh)
 | _,_,.nil=>.nil
 | _,_,.cons ⟨p,e,q⟩ t=>by
  subst e
  exact .cons (dg.tup (yy.of q) (.cons (.str _) (.cons (.str _) .nil))) (Zg t)
theorem Z2 {ns:List Int}:∀{zs:List V},(∀z∈zs,z∈ns.map V.int)→∃ms:List Int,zs=ms.map V.int
 | [],_=>⟨[],rfl⟩
 | z :: zs,h=>by
  obtain⟨n,_,e⟩:=List.mem_map.mp (h z List.mem_cons_self)
  obtain⟨ms,e2⟩:=Z2 (zs:=zs) fun y hy=>h y (List.mem_cons_of_mem _ hy)
  exact⟨n :: ms,by rw[List.map_cons,e,e2]⟩
theorem sj {t:jt} {p:Addr} {ps as:List Str} {qR:List (Str × Str)} {rows:List Rw} {evs:List Ew} {tx:Str} {H:Hp} {Q:VK} {E:XK} (hA:gU t H p ps as qR (.pt "whole" [] rows)) (hW:Y2 ps as qR) (hf:qY rows=evs) (hk:yZ rows) (hd:wW rows≤6) (ho:∀e∈evs,e.ok) (hl:evs.length≤80) (ht:Txt.join (Str.ofString "; ") (rowsOf ps as qR evs)=tx) (k:∀H',qk H H'→Q (.str tx) H'):kH t [.ref p] H Q E:=by
 subst hf ht
 exact⟨p,ps,as,qR,rows,rfl,hA,hW,hk,ho,hd,hl,k⟩
theorem Qe {t:jt} {ps as:List Str} {qR:List (Str × Str)} {evs:List Ew} (hh:YS ps as qR) (he:ai evs):∃rws:List Rw,qY rws=evs∧wW rws≤6∧yZ rws∧((rowsOf ps as qR evs).map (·.length)).sum + (rowsOf ps as qR evs).length * (Str.ofString "; ").length≤30000∧∀{H:Hp} {Q:VK} {E:XK},(∀p H',qk H H'→gU t H' p ps as qR (.pt "whole" [] rws)→Q (.ref p) H')→cY t [.str (Txt.join (Str.ofString "; ") (rowsOf ps as qR evs))] H Q E:=by
 have hel:=he.len
 have hrl:=@bp ps as qR evs
 have r2:=hh.r2
 have hF:=Qb hh.w he.ok
 obtain⟨rws,erd,efl,edp,eko⟩:=Jh hh he.ok he.dp he.nd (by omega)
 exact⟨rws,efl,edp,eko,iL hF (by omega),fun kk=>Yt (Jp ps as qR evs) hF (by omega) erd kk⟩
noncomputable def Kl (t:jt):Sp:=fun vs H Q _=>∃(p le:Addr) (ps as:List Str) (qR:List (Str × Str)) (ws:List V) (evs:List Ew),vs=[.ref p,.ref le]∧QJ H p ps as qR∧H le=some (.lst ws)∧Paired (pG H) ws evs∧ai evs∧
 ∀q rows H',qk H H'→qY rows=evs→yZ rows→wW rows≤6→gU t H' q ps as qR (.pt "whole" [] rows)→Q (.ref q) H'
section
variable {P:Program} {w:World} {K:PySem.W.Frag} {mg:Str→Option Value} {base:Heap} {t:jt}
theorem mz:qo ["_law_header_here","_law_events_here","_law_lists","_law_pact","_law_one"] ["_law_header_here","_law_events_here"] (z4 wa):=⟨rfl,rfl,rfl,by decide +kernel,rfl,by decide +kernel,by decide +kernel⟩
set_option maxHeartbeats 400000 in
theorem Jq (T:Txt K mg t):qi P w K mg base jk 6 t.da t.dc ["_law_header_here","_law_events_here"] (Kl t):=by
 have G_w_whole_part:qi P w K mg base jk 5 t.wz t.vI ["_law_events_here"] (GO t):=(uC T).mono (by decide)
 have M_Pact_init:qi P w K mg base jk 4 t.vB t.yb ["self","parties","acts","rooms","whole"] (Ku K t):=(cw T).mono (by decide)
 refine T.sr.fn.ok mz (fun vs H Q E h=>(by obtain⟨_,_,_,_,_,_,_,rfl,_⟩:=h;rfl)) (fun cdv A outer s H vs Q E hr h=>?_)
 obtain⟨p,le,ps,as,qR,ws,evs,rfl,hH,hL,hP,he,kk⟩:=h
 refine⟨_,(z6 (qZ (i:=2) mz.nd rfl (Or.inl rfl) (qF (z0 (jn (wb (K:=K) rfl) rfl T.yI PyProof.Rows.boot_list (z0 (qy (qu (K:=K) rfl) (pv 0) z7 (fun _ _=>rfl)) z5)) (z0 (jn (wb (K:=K) rfl) rfl T.yI PyProof.Rows.boot_list (z0 (qy (qu (K:=K) rfl) (pv 0) z7 (fun _ _=>rfl)) z5)) (z0 (jn (wb (K:=K) rfl) rfl T.yI PyProof.Rows.boot_list (z0 (qy (qu (K:=K) rfl) (pv 0) z7 (fun _ _=>rfl)) z5)) z5)))) vQ)
   (z6 (qZ (i:=3) mz.nd rfl (Or.inl rfl) (xr T.oy M_Pact_init hr rfl T.aR T.fD.bd .nil qQ (z0 (qy (qf (K:=K) rfl) (pv 2) z7 (fun _ _=>rfl)) (z0 (qy (qf (K:=K) rfl) (pv 2) z7 (fun _ _=>rfl)) (z0 (qy (qf (K:=K) rfl) (pv 2) z7 (fun _ _=>rfl)) (z0 (qm G_w_whole_part hr rfl T.wK.mg T.wK.fn.kp T.wK.bd .nil qQ (z0 (pv 1) z5)) z5))))))
   (z6 (yJ PassesOwn.never rfl (vo (K:=K) rfl (pv 2)) (jC (i:=4) mz.nd rfl (Or.inl rfl))
    (z8 (q0 (uz PySem.F.plainAttrs_list PySem.F.slot_list_clear PySem.F.type_list_clear lX (pv 4)))))
   (z8 (qw (pv 3)))))),?_⟩
 obtain⟨lp,la,lr,vs,e0,ep,ea,er,hR⟩:=hH
 walk_at "rd"
 refine⟨lp,_,rfl,.inl (qD.of ep),?_⟩
 intro l1 H1 s1 hl1 e1
 have e01:=s1 _ _ e0
 walk_at "rd"
 refine⟨la,_,rfl,.inl (qD.of (s1 _ _ ea)),?_⟩
 intro l2 H2 s2 hl2 e2
 have e02:=s2 _ _ e01
 walk_at "rd"
 refine⟨lr,_,rfl,.inl (qD.of (s2 _ _ (s1 _ _ er))),?_⟩
 intro l3 H3 s3 hl3 e3
 walk_at "rd"
 intro ll H4 s4 hll e4
 have e14:=s4 _ _ (s3 _ _ (s2 _ _ e1))
 have e24:=s4 _ _ (s3 _ _ e2)
 have e34:=s4 _ _ e3
 have sA:qk H H4:=((s1.trans s2).trans s3).trans s4
 have hn1:H l1=none:=hl1
 have hn2:H l2=none:=s1.free hl2
 have hn3:H l3=none:=(s1.trans s2).free hl3
 have hll4:∀c∈[l1,l2,l3],∃o,H3 c=some o:=fun c hc=>by
  simp only[List.mem_cons,List.not_mem_nil,or_false] at hc
  rcases hc with rfl | rfl | rfl
  ·exact⟨_,s3 _ _ (s2 _ _ e1)⟩
  ·exact⟨_,s3 _ _ e2⟩
  ·exact⟨_,e3⟩
 have hLn:ll∉[l1,l2,l3]:=fun z=>by
  obtain⟨o,e⟩:=hll4 _ z
  rw[hll] at e
  cases e
 have hnH:∀c∈[l1,l2,l3],H c=none:=fun c hc=>by
  simp only[List.mem_cons,List.not_mem_nil,or_false] at hc
  rcases hc with rfl | rfl | rfl
  ·exact hn1
  ·exact hn2
  ·exact hn3
 have ha4:∀c∈[l1,l2,l3],∃xs,H4 c=some (.lst xs):=fun c hc=>by
  simp only[List.mem_cons,List.not_mem_nil,or_false] at hc
  rcases hc with rfl | rfl | rfl
  ·exact⟨_,e14⟩
  ·exact⟨_,e24⟩
  ·exact⟨_,e34⟩
 clear e1 e2 e3 e01 e02 s1 s2 s3 s4 hl1 hl2 hl3 hll hll4
 walk_at "rd"
 refine⟨ll,_,_,_,rfl,rfl,qD.of e4,rfl,?_⟩
 walk_at "rd"
 refine⟨ll,_,_,_,rfl,rfl,qD.of e4,rfl,?_⟩
 walk_at "rd"
 refine⟨ll,_,_,_,rfl,rfl,qD.of e4,rfl,?_⟩
 walk_at "rd"
 refine⟨le,ws,evs,[l1,l2,l3],rfl,sA _ _ hL,Paired.imp' (fun _ _ z=>z.same sA) hP,he,fun c hc=>(by obtain⟨xs,e⟩:=ha4 c hc;exact⟨_,e⟩),fun pw rows H5 s5 hfl hk hd hRw=>?_⟩
 walk_at "rd"
 intro q dxq hq hdq hne
 have mk:=wj (o:=HO.own q) (o2:=HO.ins t.jF dxq []) hq hdq
 refine⟨q,dxq,l1,l2,l3,.ref pw,_,_,_,rfl,qx,mk _ _ (s5 _ _ e14),mk _ _ (s5 _ _ e24),mk _ _ (s5 _ _ e34),fun H6 a' b' c' o6 g1 g2 g3 g4 n1 n2 n3=>⟨rfl,?_⟩⟩
 have s6:qk H5 H6:=fun c o e=>o6 c o (qv e hq) (mk c o e)
 have sB:qk H4 H6:=s5.trans s6
 have hne6:∀{d:Addr},H5 d=none→∀c∈[l1,l2,l3],d≠c:=fun hd c hc z=>by
  obtain⟨xs,e⟩:=ha4 c hc
  rw[z,s5 _ _ e] at hd
  cases hd
 have ma:=hne6 (mk.free n1)
 have mb:=hne6 (mk.free n2)
 have mc:=hne6 (mk.free n3)
 have e46:=sB _ _ e4
 have hR6:xP t [l1,l2,l3] H6 (.pt "whole" [] rows) (.ref pw):=hRw.move (Fm.of s6) fun _ z=>.inl z
 have sH6:qk H H6:=sA.trans sB
 have ha6:∀c∈[l1,l2,l3],∃xs,H6 c=some (.lst xs):=fun c hc=>by obtain⟨xs,e⟩:=ha4 c hc;exact⟨xs,sB _ _ e⟩
 clear hRw hq hdq hne mk o6 n1 n2 n3 s6 s5 e14 e24 e34 e4 sA sB ha4 hne6 hn1 hn2 hn3
 walk_at "rd"
 refine pL (K:=K) (a:=ll) (xs:=[.ref l1,.ref l2,.ref l3]) (fun i σ H'=>∃(v4:Option V),σ=[some (.ref p),some (.ref le),some (.ref ll),some (.ref q),v4]∧qk H H'∧H' ll=some (.lst [.ref l1,.ref l2,.ref l3])∧(∀c∈[l1,l2,l3],∃xs,H' c=some (.lst xs))∧H' q=some (.ins t.jF dxq (Vb a' b' c' (.ref pw)))∧H' a'=some (.lst (ps.map V.str))∧H' b'=some (.lst (as.map V.str))∧H' c'=some (.lst vs)∧xP t [l1,l2,l3] H' (.pt "whole" [] rows) (.ref pw))
  ⟨none,rfl,sH6,e46,ha6,g1,g2,g3,g4,hR6⟩ (fun i σ H' _ ⟨_,_,_,z,_⟩=>qD.of z) ?_ ?_
 ·rintro i y σ H7 hi ⟨v4,rfl,s7,e7,ha7,h1,h2,h3,h4,h5⟩
  obtain⟨x,rfl,hx⟩:∃x,y=V.ref x∧x∈[l1,l2,l3]:=by
   (have hm:=List.mem_of_getElem? hi)
   (simp only[List.mem_cons,List.not_mem_nil,or_false] at hm)
   rcases hm with rfl | rfl | rfl
   ·exact⟨_,rfl,by simp⟩
   ·exact⟨_,rfl,by simp⟩
   ·exact⟨_,rfl,by simp⟩
  obtain⟨xs,ex⟩:=ha7 x hx
  refine⟨_,rfl,.inl ⟨rfl,_,qD.of ex⟩,?_⟩
  refine⟨x,_,rfl,rfl,ex,?_⟩
  intro H8 k8 e8
  refine⟨_,rfl,k8.put s7 (hnH x hx),k8.look e7 (fun z=>hLn (z▸hx)),fun c hc=>?_,k8.look h1 (yV h1 ex (by intro z;cases z)),k8.look h2 (ma x hx),k8.look h3 (mb x hx),k8.look h4 (mc x hx),h5.move (fun b o hb e=>k8.look e (fun z=>hb (z▸hx))) fun b hb=>.inl hb⟩
  by_cases hcx:c=x
  ·rw[hcx];exact⟨_,e8⟩
  ·obtain⟨xs',e'⟩:=ha7 c hc
   exact⟨_,k8.look e' hcx⟩
 ·rintro σ H7 ⟨v4,rfl,s7,e7,ha7,h1,h2,h3,h4,h5⟩
  walk_at "rd"
  exact kk q rows H7 s7 hfl hk hd ⟨dxq,a',b',c',.ref pw,vs,h1,h2,h3,h4,Paired.imp' (fun _ _ z=>z.same s7) hR,h5.move (Fm.of (qk.refl _)) (fun b hb=>by cases hb)⟩
end
noncomputable def Kr (K:PySem.W.Frag):Sp:=fun vs H Q _=>∃(a:Addr) (ns:List Int),vs=[.ref a]∧qD K H a (ns.map V.int)∧ns.length≤63∧∀H',Q (.bl true) H'
section
variable {P:Program} {w:World} {K:PySem.W.Frag} {mg:Str→Option Value} {base:Heap} {t:jt}
theorem XG (T:Txt K mg t):qi P w K mg base jk 9 t.pR t.pC ["text"] (cY t):=Vh (Jz T) fun _ _ _ _ h=>Yn h
seal cY kH
theorem xG:qo ["_law_script","_law_names","_law_header_here","_law_events_here","_law_fewer","_law_text","_law_other","_law_pact","_law_beside","_law_made_here","_law_some","_law_found_here","_law_due","_law_again"] ["_law_script"] (z4 yq):=⟨rfl,rfl,rfl,by decide +kernel,rfl,by decide +kernel,by decide +kernel⟩
set_option maxHeartbeats 2000000 in
theorem XB (T:Txt K mg t):qi P w K mg base jk 12 t.de t.uS ["_law_script"] (Kr K):=by
 have G_w_cell_at:qi P w K mg base jk 11 t.ym t.yp ["_law_script","_law_k"] (Zc K):=(cb T).mono (by decide)
 have G_w_events:qi P w K mg base jk 11 t.bH t.bJ ["_law_names","_law_script"] (az K):=(ez T).mono (by decide)
 have G_w_found:qi P w K mg base jk 11 t.yR t.yU ["_law_rows_here"] ((Hc t) 7):=(Zq T).mono (by decide)
 have G_w_header:qi P w K mg base jk 11 t.bB t.bX ["_law_names","_law_cell"] (Km K):=(eg T).mono (by decide)
 have G_w_made:qi P w K mg base jk 11 t.da t.dc ["_law_header_here","_law_events_here"] (Kl t):=(Jq T).mono (by decide)
 have G_w_mix:qi P w K mg base jk 11 t.bP t.bK ["_law_cell","_law_k"] aq:=(cf T).mono (by decide)
 have G_w_name:qi P w K mg base jk 11 t.dZ t.du ["_law_cell","_law_k"] Qc:=(Jj T).mono (by decide)
 have G_w_rows:qi P w K mg base jk 11 t.dQ t.dt ["_law_header_here","_law_events_here"] (Ki K):=(Jx T).mono (by decide)
 have G_v_read:qi P w K mg base jk 11 t.pR t.pC ["text"] (cY t):=(XG T).mono (by decide)
 have G_v_shown:qi P w K mg base jk 11 t.fS t.fR ["pact"] (kH t):=(a9 T).mono (by decide)
 refine T.KY.fn.ok xG (fun vs H Q E h=>(by obtain⟨_,_,rfl,_⟩:=h;rfl)) (fun cdv A outer s H vs Q E hr h=>?_)
 obtain⟨a,ns,rfl,hS,hl,k⟩:=h
 refine⟨_,(z6 (cZ (i:=1) (osc:=z4 yq) (N:=["_law_script","_law_names","_law_header_here","_law_events_here","_law_fewer","_law_text","_law_other","_law_pact","_law_beside","_law_made_here","_law_some","_law_found_here","_law_due","_law_again"]) (names:=["_law_script"]) (qN:=[0]) rfl rfl rfl xG.nd ⟨rfl,by decide +kernel,by decide +kernel,by decide +kernel,rfl,rfl,by decide +kernel,by decide +kernel⟩ rfl rfl (yS rfl T.gs (z0 z7 z5)) (fun _ _ _=>(qm G_w_name hr rfl T.so.mg T.so.fn.kp T.so.bd .nil qQ (z0 (qm G_w_mix hr rfl T.xg.mg T.xg.fn.kp T.xg.bd .nil qQ (z0 (qm G_w_cell_at hr rfl T.j5.mg T.j5.fn.kp T.j5.bd .nil qQ (z0 (pv 1) (z0 z7 z5))) (z0 z7 z5))) (z0 (pv 0) z5)))))
   (z6 (qZ (i:=2) xG.nd rfl (Or.inl rfl) (qm G_w_header hr rfl T.fH.mg T.fH.fn.kp T.fH.bd .nil qQ (z0 (pv 1) (z0 (qm G_w_mix hr rfl T.xg.mg T.xg.fn.kp T.xg.bd .nil qQ (z0 (qm G_w_cell_at hr rfl T.j5.mg T.j5.fn.kp T.j5.bd .nil qQ (z0 (pv 0) (z0 z7 z5))) (z0 z7 z5))) z5))))
   (z6 (qZ (i:=3) xG.nd rfl (Or.inl rfl) (qm G_w_events hr rfl T.yt.mg T.yt.fn.kp T.yt.bd .nil qQ (z0 (pv 1) (z0 (pv 0) z5))))
   (z6 (qZ (i:=4) xG.nd rfl (Or.inl rfl) (qm G_w_events hr rfl T.yt.mg T.yt.fn.kp T.yt.bd .nil qQ (z0 (pv 1) (z0 (qg wD (kT (kL (K:=K) rfl) (pv 0) gP (xi z7)) (Zk (K:=K) rfl (pv 0) (xi z7) (xi z7) (xi z7))) z5))))
   (z6 (qZ (i:=5) xG.nd rfl (Or.inl rfl) (ji PySem.F.plainAttrs_str PySem.F.slot_str_join PySem.F.type_str_join (kc (K:=K) rfl) qq (z0 (qm G_w_rows hr rfl T.fP.mg T.fP.fn.kp T.fP.bd .nil qQ (z0 (pv 2) (z0 (pv 3) z5))) z5)))
   (z6 (qZ (i:=6) xG.nd rfl (Or.inl rfl) (ji PySem.F.plainAttrs_str PySem.F.slot_str_join PySem.F.type_str_join (kc (K:=K) rfl) qq (z0 (qm G_w_rows hr rfl T.fP.mg T.fP.fn.kp T.fP.bd .nil qQ (z0 (pv 2) (z0 (pv 4) z5))) z5)))
   (z6 (qZ (i:=7) xG.nd rfl (Or.inl rfl) (qm G_v_read hr rfl T.gd.mg T.gd.fn.kp T.gd.bd .nil qQ (z0 (pv 5) z5)))
   (z6 (qZ (i:=8) xG.nd rfl (Or.inl rfl) (qm G_v_read hr rfl T.gd.mg T.gd.fn.kp T.gd.bd .nil qQ (z0 (pv 6) z5)))
   (z6 (qZ (i:=9) xG.nd rfl (Or.inl rfl) (qm G_w_made hr rfl T.sr.mg T.sr.fn.kp T.sr.bd .nil qQ (z0 (pv 2) (z0 (pv 3) z5))))
   (z6 (qZ (i:=10) xG.nd rfl (Or.inl rfl) (qF (z0 (qm G_v_shown hr rfl T.jY.mg T.jY.fn.kp T.jY.bd .nil qQ (z0 (pv 7) z5)) (z0 (qm G_v_shown hr rfl T.jY.mg T.jY.fn.kp T.jY.bd .nil qQ (z0 (pv 8) z5)) (z0 (qm G_v_shown hr rfl T.jY.mg T.jY.fn.kp T.jY.bd .nil qQ (z0 (pv 9) z5)) (z0 (qm G_v_shown hr rfl T.jY.mg T.jY.fn.kp T.jY.bd .nil qQ (z0 (pv 8) z5)) (z0 (qm G_v_shown hr rfl T.jY.mg T.jY.fn.kp T.jY.bd .nil qQ (z0 (pv 7) z5)) z5)))))) vQ)
   (z6 (yJ PassesOwn.never rfl (Qw (K:=K) rfl rfl T.JS (z0 (pv 10) (z0 (qF (z0 (pv 5) (z0 (pv 6) (z0 (pv 5) (z0 (pv 6) (z0 (pv 5) z5)))))) z5)) PyProof.Rows.boot_zip) (cc (K:=K) rfl rfl (kN (jC (i:=11) xG.nd rfl (Or.inl rfl)) (kN (jC (i:=12) xG.nd rfl (Or.inl rfl)) cu)))
    (z8 (qP (PW.pt (gp (yX (xu (qC (jR (K:=K) rfl) rfl T.jZ PyProof.Rows.boot_isinstance (z0 (pv 11) (z0 (rk rfl T.ZH PyProof.Rows.boot_str (v:=.ty "str") rfl) z5))))) (wC (ql eo (pv 11) (pv 12) (qe _)))))
    (z8 (qw gB)) qr)))
   (z6 (qZ (i:=13) xG.nd rfl (Or.inl rfl) (qm G_v_read hr rfl T.gd.mg T.gd.fn.kp T.gd.bd .nil qQ (z0 (qm G_v_shown hr rfl T.jY.mg T.jY.fn.kp T.jY.bd .nil qQ (z0 (pv 9) z5)) z5)))
   (z6 (qP (PW.pt (gp (ql (rj (K:=K) rfl hr.units) (qJ (K:=K) rfl (pv 13) rfl) (qy (qu (K:=K) rfl) (pv 2) z7 (fun _ _=>rfl)) (qe _)) (gp (ql (rj (K:=K) rfl hr.units) (qJ (K:=K) rfl (pv 13) rfl) (qy (qu (K:=K) rfl) (pv 2) z7 (fun _ _=>rfl)) (qe _)) (wC (ql (rj (K:=K) rfl hr.units) (qJ (K:=K) rfl (pv 13) rfl) (qy (qu (K:=K) rfl) (pv 2) z7 (fun _ _=>rfl)) (qe _))))))
    (z8 (qw gB)) qr)
   (z8 (qw (Zx (va (oQ (K:=K) rfl hr.units) (qm G_w_found hr rfl T.yC.mg T.yC.fn.kp T.yC.bd .nil qQ (z0 (qJ (K:=K) rfl (qJ (K:=K) rfl (pv 13) rfl) rfl) z5)) (pv 3) (qe _)) (oK (va jd (qm G_v_shown hr rfl T.jY.mg T.jY.fn.kp T.jY.bd .nil qQ (z0 (pv 9) z5)) (pv 5) (qe _))))))))))))))))))),?_⟩
 walk_at "rd"
 have hc:=aN (yE ns 1) 60
 have hcell:=aN (yE ns 0) 61
 refine gA dj (fun i _ v=>v=.str (cE (gu (yE ns 1) 60) (i:Int))) (qj (by decide +kernel)) ?_ ?_
 ·intro i y H' Q' hy s' kk
  have hi:i < 104:=by
   have:=(List.getElem?_eq_some_iff.mp hy).1
   simpa using this
  have hy':y=V.int (0 + (i:Int)):=by
   rw[List.getElem?_map,List.getElem?_range (show i < (104:Int).toNat from hi)] at hy
   exact(Option.some.inj hy).symm
  subst hy'
  refine⟨_,rfl,a,1,ns,rfl,s'.seq hS,by decide,?_⟩
  refine⟨_,_,rfl,by decide,by decide,?_⟩
  refine⟨_,rfl,_,_,rfl,hc.1,by omega,by omega,by omega,fun H4 s4=>?_⟩
  rw[Int.zero_add]
  exact kk _ _ s4 rfl
 intro D H1 ys s1 hD e1 hlen hp
 generalize hcc:gu (yE ns 1) 60=c at *
 generalize hce:gu (yE ns 0) 61=cell at *
 obtain rfl:=Y4 (c:=c) (ys:=ys) (by rw[hlen];simp) fun i v hi hv=>hp i _ v (by rw[List.getElem?_map,List.getElem?_range (show i < (104:Int).toNat from hi)];rfl) hv
 clear hp hlen
 have hA1:qD K H1 D ((NN c).map V.str):=qD.of e1
 have hS1:=s1.seq hS
 refine⟨_,rfl,_,rfl,a,0,ns,rfl,hS1,by decide,?_⟩
 refine⟨_,_,rfl,by decide,by decide,?_⟩
 rw[hce]
 walk_at "rd"
 refine⟨D,c,cell,rfl,hA1,hcell.1,fun ps as qR p H2 hH s2 hp2 eH=>?_⟩
 have hS2:=s2.seq hS1
 have hA2:=s2.seq hA1
 refine⟨_,rfl,_,rfl,D,a,c,ns,rfl,hA2,hS2,by omega,fun le H3 ws evs s3 hle e3 hP he=>?_⟩
 have hS3:=s3.seq hS2
 have hA3:=s3.seq hA2
 have eH3:=eH.same s3
 walk_at "rd"
 intro l4 H4 s4 hl4 e4
 have hcut:g6 (ns.map V.int) none (some 3)=(ns.take 3).map V.int:=rG V.int ns 3
 rw[hcut] at e4
 have hS4:=s4.seq hS3
 walk_at "rd"
 intro zs hz hzl
 intro l5 H5 s5 hl5 e5
 obtain⟨ms,rfl⟩:=Z2 hz
 clear hz
 have hml:ms.length≤63:=by rw[List.length_map,List.length_map] at hzl;omega
 refine⟨l4,l5,_,_,rfl,rfl,s5 _ _ e4,e5,qj (by rw[List.length_map,List.length_map,List.length_take];omega),?_⟩
 rw[←List.map_append]
 intro l6 H6 s6 hl6 e6
 have s36:qk H3 H6:=(s4.trans s5).trans s6
 have hA6:=s36.seq hA3
 refine⟨D,l6,c,ns.take 3 ++ ms,rfl,hA6,qD.of e6,by rw[List.length_append,List.length_take];omega,fun lf H7 wf evf s7 hlf e7 hPf hef=>?_⟩
 have s37:qk H3 H7:=s36.trans s7
 have eH7:=eH3.same s37
 have eL7:=s37 _ _ e3
 have hP7:Paired (pG H7) ws evs:=Paired.imp' (fun _ _ z=>z.same s37) hP
 clear hzl e4 e5 e6 hS3 hS4 hA6 s4 s5 s6 s36 s37 s7 eH3 e3 hP hA3 hS2 hA2 hS1 hA1 e1 s1 s2 s3 hcut eH hS
 have hh:=hH.hd
 have hel:=he.len
 have hefl:=hef.len
 obtain⟨rwA,flA,dpA,koA,smA,rdA⟩:=Qe (t:=t) hh he
 obtain⟨rwB,flB,dpB,koB,smB,rdB⟩:=Qe (t:=t) hh hef
 walk_at "rd"
 refine⟨p,le,ps,as,qR,ws,evs,rfl,eH7,hh.w,qD.of eL7,hP7,he.ok,by omega,fun lr H8 s8 hlr e8=>?_⟩
 refine⟨_,lr,_,rfl,rfl,qD.of e8,Nat.le_trans smA (by decide),?_⟩
 have e78:=s8 _ _ e7
 have hPf8:Paired (pG H8) wf evf:=Paired.imp' (fun _ _ z=>z.same s8) hPf
 generalize htA:Txt.join (Str.ofString "; ") (rowsOf ps as qR evs)=tx at *
 walk_at "rd"
 refine⟨p,lf,ps,as,qR,wf,evf,rfl,eH7.same s8,hh.w,qD.of e78,hPf8,hef.ok,by omega,fun lr2 H9 s9 hlr2 e9=>?_⟩
 refine⟨_,lr2,_,rfl,rfl,qD.of e9,Nat.le_trans smB (by decide),?_⟩
 generalize htB:Txt.join (Str.ofString "; ") (rowsOf ps as qR evf)=ty at *
 clear smA smB e8 e9 hlr hlr2 hPf8 hPf e78 e7
 have s79:qk H7 H9:=s8.trans s9
 walk_at "rd"
 show cY t [.str tx] H9 _ _
 refine rdA fun pf H10 s10 hA10=>?_
 walk_at "rd"
 show cY t [.str ty] H10 _ _
 refine rdB fun pb H11 s11 hB11=>?_
 have s7b:qk H7 H11:=(s79.trans s10).trans s11
 walk_at "rd"
 refine⟨p,le,ps,as,qR,ws,evs,rfl,eH7.same s7b,s7b _ _ eL7,Paired.imp' (fun _ _ z=>z.same s7b) hP7,he,fun pm rwM H12 s12 flM koM dpM hM12=>?_⟩
 have hA12:=(hA10.same s11).same s12
 have hB12:=hB11.same s12
 have s7c:qk H7 H12:=s7b.trans s12
 have eH12:=eH7.same s7c
 have eL12:=s7c _ _ eL7
 have hP12:Paired (pG H12) ws evs:=Paired.imp' (fun _ _ z=>z.same s7c) hP7
 clear hA10 hB11 s7b s7c s79 s8 s9 s10 s11 s12 eH7 eL7 hP7
 have shA:∀{H:Hp} {Q:VK} {E:XK},qk H12 H→(∀H',qk H H'→Q (.str tx) H')→kH t [.ref pf] H Q E:=fun s k=>sj (hA12.same s) hh.w flA koA dpA he.ok (by omega) htA k
 have shB:∀{H:Hp} {Q:VK} {E:XK},qk H12 H→(∀H',qk H H'→Q (.str ty) H')→kH t [.ref pb] H Q E:=fun s k=>sj (hB12.same s) hh.w flB koB dpB hef.ok (by omega) htB k
 have shM:∀{H:Hp} {Q:VK} {E:XK},qk H12 H→(∀H',qk H H'→Q (.str tx) H')→kH t [.ref pm] H Q E:=fun s k=>sj (hM12.same s) hh.w flM koM dpM he.ok (by omega) htA k
 walk_at "rd"
 show kH t [.ref pf] H12 _ _
 refine shA (qk.refl _) fun H13 s13=>?_
 walk_at "rd"
 show kH t [.ref pb] H13 _ _
 refine shB s13 fun H14 s14=>?_
 have s14':=s13.trans s14
 clear s13 s14
 walk_at "rd"
 show kH t [.ref pm] H14 _ _
 refine shM s14' fun H15 s15=>?_
 have s15':=s14'.trans s15
 clear s14' s15
 walk_at "rd"
 show kH t [.ref pb] H15 _ _
 refine shB s15' fun H16 s16=>?_
 have s16':=s15'.trans s16
 clear s15' s16
 walk_at "rd"
 show kH t [.ref pf] H16 _ _
 refine shA s16' fun H17 s17=>?_
 have s17':=s16'.trans s17
 clear s16' s17
 walk_at "rd"
 intro lS HS sS hlS eS
 have sS':=s17'.trans sS
 show pS 10 (V.ref lS) [some (.ref a),some (.ref D),some (.ref p),some (.ref le),some (.ref lf),some (.str tx),some (.str ty),some (.ref pf),some (.ref pb),some (.ref pm),none,none,none,none] _ _
 walk_at "rd"
 intro lD HD sD hlD eD
 have eS':=sD _ _ eS
 have sDD:=sS'.trans sD
 clear sS sS' sD s17' eS hlS hlD
 refine⟨lS,lD,_,_,rfl,qD.of eS',qD.of eD,?_⟩
 refine Xk (K:=K) (a:=lS) (b:=lD) (xs:=[V.str tx,V.str ty,V.str tx,V.str ty,V.str tx]) (ys:=[V.str tx,V.str ty,V.str tx,V.str ty,V.str tx]) (fun i σ H'=>(∃(v11 v12:Option V),σ=[some (.ref a),some (.ref D),some (.ref p),some (.ref le),some (.ref lf),some (.str tx),some (.str ty),some (.ref pf),some (.ref pb),some (.ref pm),some (.ref lS),v11,v12,none]∧qk HD H')∨False) rfl (.inl ⟨none,none,rfl,qk.refl _⟩) (fun i σ H' _ q=>?_) ?_ ?_
 ·obtain⟨_,_,_,z⟩:=q.resolve_right (fun z=>z)
  exact⟨qD.of (z _ _ eS'),qD.of (z _ _ eD)⟩
 ·intro i x y σ H' tp hx hy q htp
  obtain⟨v11,v12,rfl,s'⟩:=q.resolve_right (fun z=>z)
  rw[hx] at hy
  cases hy
  obtain⟨z,rfl⟩:∃z,x=V.str z:=by
   have hm:=List.mem_of_getElem? hx
   (simp only[List.mem_cons,List.not_mem_nil,or_false] at hm)
   rcases hm with rfl | rfl | rfl | rfl | rfl<;>exact⟨_,rfl⟩
  refine⟨tp,[.str z,.str z],rfl,yy.of qx,rfl,.str z,[.str z],rfl,.str z,[],rfl,rfl,?_⟩
  walk_at "rd"
  exact Or.inl ⟨_,_,rfl,s'.trans (qk.og htp)⟩
 ·intro σ H' q
  obtain⟨v11,v12,rfl,s'⟩:=q.resolve_right (fun z=>z)
  have s18:=sDD.trans s'
  clear sDD s' eS' eD q
  walk_at "rd"
  show kH t [.ref pm] H' _ _
  refine shM s18 fun H19 s19=>?_
  have s19':=s18.trans s19
  clear s18 s19
  walk_at "rd"
  show cY t [.str tx] H19 _ _
  refine rdA fun pg H20 s20 hG=>?_
  have s20':=s19'.trans s20
  clear s19' s20
  obtain⟨dx,ga,gb,gc,gx,gv,ep,ea,eb,ec,hRm,hRw⟩:=id hG
  unfold xP at hRw
  obtain⟨pw,dxw,aw,bw,yw,rfl,_,_,_,epw,eaw,ebw,hRs⟩:=hRw
  obtain⟨lp,la,lr0,vr,zh,zlp,zla,zlr,hR2⟩:=eH12.same s20'
  have shp:SeqAt.shaped (.list (ps.map PyData.str))=true:=kA fun y hy=>tI (hh.w.pn y hy)
  have sha:SeqAt.shaped (.list (as.map PyData.str))=true:=kA fun y hy=>tI (hh.w.an y hy)
  have shr:=Zh hh.w.rn
  walk_at "rd"
  refine⟨_,Wx T ep,?_⟩
  walk_at "rd"
  refine⟨_,_,dg.lst (qD.of ea) (yv.strs ps),dg.lst (qD.of zlp) (yv.strs ps),shp,shp,?_⟩
  rw[di,decide_eq_true rfl]
  walk_at "rd"
  refine⟨_,Wv T ep,?_⟩
  walk_at "rd"
  refine⟨_,_,dg.lst (qD.of eb) (yv.strs as),dg.lst (qD.of zla) (yv.strs as),sha,sha,?_⟩
  rw[di,decide_eq_true rfl]
  walk_at "rd"
  refine⟨_,Ww T ep,?_⟩
  walk_at "rd"
  refine⟨_,_,dg.lst (qD.of ec) (Zg hRm),dg.lst (qD.of zlr) (Zg hR2),shr,shr,?_⟩
  rw[show PyData.eqv (.list (qR.map nh)) (.list (qR.map nh))=true by rw[PyData.eqv];exact Qg qR]
  walk_at "rd"
  refine⟨_,Wy T ep,_,Xq T epw,?_⟩
  refine⟨[],bw,yw,rwA,rfl,ebw,hRs,by simp,dpA,koA,by rw[flA];omega,fun l5 H21 ws5 s21 hl5 e5 hP5=>?_⟩
  rw[flA] at hP5
  have s21':=s20'.trans s21
  refine⟨_,rfl,_,_,dg.lst (qD.of e5) (aV (Paired.imp' (fun _ _ z=>z.ev) hP5)),dg.lst (qD.of (s21' _ _ eL12)) (aV (Paired.imp' (fun _ _ z=>z.same s21') hP12)),rF he.ok,rF he.ok,?_⟩
  rw[show PyData.eqv (.list (evs.map cL)) (.list (evs.map cL))=true by rw[PyData.eqv];exact ZS evs]
  walk_at "rd"
  show kH t [.ref pm] H21 _ _
  refine shM s21' fun H22 s22=>?_
  walk_at "rd"
  show Q (V.bl (decide (V.str tx=V.str tx))) H22
  rw[decide_eq_true rfl]
  exact k H22
theorem Q0 (T:Txt K mg t) (s:Shared) (u:Value):BindsTo s t.uS ⟨[u],[]⟩ [("_law_script",u)]:=by
 obtain⟨oc,od,kV,doc,pm,an,cdv,ct,osl,e,_⟩:=T.KY.fn.ex
 rw[e]
 exact .of_eq rfl
theorem Q1 {H:Hp} {a:Addr} {ns:List Int} (hl:ns.length≤63) (_:JM H) (hS:qD K H a (ns.map V.int)):Kr K [.ref a] H (fun v _=>v=.bl true) fun _ _ _=>False:=
 ⟨a,ns,rfl,hS,hl,fun _=>rfl⟩
end
theorem Vu:(19:Nat)≤sizeLine:=qj (by decide)
theorem Vr {t0 t1 t2 t3 t4 t5 t6 t7 t8 t9 t10 t11 t12 t13 t14 t15 t16 t17 t18:Tok}:Vals (gW.map V.str) ([.str "acts" t0,.str "any" t1,.str "be" t2,.str "by" t3,.str "calm" t4,.str "done" t5,.str "else" t6,.str "end" t7,.str "in" t8,.str "let" t9,.str "may" t10,.str "must" t11,.str "not" t12,.str "part" t13,.str "parties" t14,.str "rest" t15,.str "sore" t16,.str "to" t17,.str "whole" t18]:List Value):=by
 repeat (first | exact .nil | refine .cons ⟨_,rfl⟩ ?_)
theorem Xm:(3:Nat)≤sizeLine:=qj (by decide)
theorem Xd {t0 t1 t2:Tok}:Vals (xo.map V.str) ([.str "calm" t0,.str "sore" t1,.str "end" t2]:List Value):=by
 repeat (first | exact .nil | refine .cons ⟨_,rfl⟩ ?_)
set_option maxHeartbeats 4000000 in
theorem YU {K:PySem.W.Frag} {h:Heap} {mg:Str→Option Value} (X:K.In h) (G:h.Ns mainGlobals mg)
  {za zb zc zd ze zf zg zh zi zj zk zl zm zn zo zp zq zr zs zt zu zv zw zx zy zz zA zB zC zD zE zF zG zH zI zJ zK zL zM zN zO zP zQ zR zS zT zU zV zW zX zY zZ zaa zab zac zad zae zaf zag zah zai zaj zak zal zam zan zao zap zaq zar zas zat zau:Addr}
  {zav zaw:Option Addr} {zax:Array (Option Value)} {zay zaz zaA zaB zaC zaD:Value}
  {zaE zaF:Option Addr} {zaG:Array (Option Value)} {zaH zaI zaJ zaK zaL zaM:Value}
  {zaN zaO:Option Addr} {zaP:Array (Option Value)} {zaQ zaR zaS zaT zaU zaV:Value}
  {zaW zaX:Option Addr} {zaY:Array (Option Value)} {zaZ zba zbb zbc zbd zbe:Value}
  {zbf zbg:Option Addr} {zbh:Array (Option Value)} {zbi zbj zbk zbl zbm zbn:Value}
  {zbo zbp:Option Addr} {zbq:Array (Option Value)} {zbr zbs zbt zbu zbv zbw:Value}
  {zbx zby:Option Addr} {zbz:Array (Option Value)} {zbA zbB zbC zbD zbE zbF:Value}
  {zbG zbH:Option Addr} {zbI:Array (Option Value)} {zbJ zbK zbL zbM zbN zbO:Value}
  {zbP zbQ:Option Addr} {zbR:Array (Option Value)} {zbS zbT zbU zbV zbW zbX:Value}
  {zbY zbZ:Option Addr} {zca:Array (Option Value)} {zcb zcc zcd zce zcf zcg:Value}
  {zch zci:Option Addr} {zcj:Array (Option Value)} {zck zcl zcm zcn zco zcp:Value}
  {zcq zcr:Option Addr} {zcs:Array (Option Value)} {zct zcu zcv zcw zcx zcy:Value}
  {zcz zcA:Option Addr} {zcB:Array (Option Value)} {zcC zcD zcE zcF zcG zcH:Value}
  {zcI zcJ:Option Addr} {zcK:Array (Option Value)} {zcL zcM zcN zcO zcP zcQ:Value}
  {zcR zcS:Option Addr} {zcT:Array (Option Value)} {zcU zcV zcW zcX zcY zcZ:Value}
  {zda zdb:Option Addr} {zdc:Array (Option Value)} {zdd zde zdf zdg zdh zdi:Value}
  {zdj zdk:Option Addr} {zdl:Array (Option Value)} {zdm zdn zdo zdp zdq zdr:Value}
  {zds zdt:Option Addr} {zdu:Array (Option Value)} {zdv zdw zdx zdy zdz zdA:Value}
  {zdB zdC:Option Addr} {zdD:Array (Option Value)} {zdE zdF zdG zdH zdI zdJ:Value}
  {zdK zdL:Option Addr} {zdM:Array (Option Value)} {zdN zdO zdP zdQ zdR zdS:Value}
  {zdT zdU:Option Addr} {zdV:Array (Option Value)} {zdW zdX zdY zdZ zea zeb:Value}
  {zec zed:Option Addr} {zee:Array (Option Value)} {zef zeg zeh zei zej zek:Value}
  {zel zem:Option Addr} {zen:Array (Option Value)} {zeo zep zeq zer zes zet:Value}
  {zeu zev:Option Addr} {zew:Array (Option Value)} {zex zey zez zeA zeB zeC:Value}
  {zeD zeE:Option Addr} {zeF:Array (Option Value)} {zeG zeH zeI zeJ zeK zeL:Value}
  {zeM zeN:Option Addr} {zeO:Array (Option Value)} {zeP zeQ zeR zeS zeT zeU:Value}
  {zeV zeW:Option Addr} {zeX:Array (Option Value)} {zeY zeZ zfa zfb zfc zfd:Value}
  {zfe zff:Option Addr} {zfg:Array (Option Value)} {zfh zfi zfj zfk zfl zfm:Value}
  {zfn zfo:Option Addr} {zfp:Array (Option Value)} {zfq zfr zfs zft zfu zfv:Value}
  {zfw zfx:Option Addr} {zfy:Array (Option Value)} {zfz zfA zfB zfC zfD zfE:Value}
  {zfF zfG:Option Addr} {zfH:Array (Option Value)} {zfI zfJ zfK zfL zfM zfN:Value}
  {zfO zfP:Option Addr} {zfQ:Array (Option Value)} {zfR zfS zfT zfU zfV zfW:Value}
  {zfX zfY:Option Addr} {zfZ:Array (Option Value)} {zga zgb zgc zgd zge zgf:Value}
  {zgg zgh:Option Addr} {zgi:Array (Option Value)} {zgj zgk zgl zgm zgn zgo:Value}
  {zgp zgq:Option Addr} {zgr:Array (Option Value)} {zgs zgt zgu zgv zgw zgx:Value}
  {zgy zgz:Option Addr} {zgA:Array (Option Value)} {zgB zgC zgD zgE zgF zgG:Value}
  {zgH zgI:Option Addr} {zgJ:Array (Option Value)} {zgK zgL zgM zgN zgO zgP:Value}
  {zgQ zgR:Option Addr} {zgS:Array (Option Value)} {zgT zgU zgV zgW zgX zgY:Value}
  {zgZ zha:Option Addr} {zhb:Array (Option Value)} {zhc zhd zhe zhf zhg zhh:Value}
  {zhi zhj:Option Addr} {zhk:Array (Option Value)} {zhl zhm zhn zho zhp zhq:Value}
  {zhr zhs:Option Addr} {zht:Array (Option Value)} {zhu zhv zhw zhx zhy zhz:Value}
  {zhA zhB:Option Addr} {zhC:Array (Option Value)} {zhD zhE zhF zhG zhH zhI:Value}
  {zhJ zhK:Option Addr} {zhL:Array (Option Value)} {zhM zhN zhO zhP zhQ zhR:Value}
  {zhS zhT:Option Addr} {zhU:Array (Option Value)} {zhV zhW zhX zhY zhZ zia:Value}
  {zib zic:Option Addr} {zid:Array (Option Value)} {zie zif zig zih zii zij:Value}
  {zik zil:Option Addr} {zim:Array (Option Value)} {zin zio ziq zir zis zit:Value}
  {ziu ziv:Option Addr} {ziw:Array (Option Value)} {zix ziy ziz ziA ziB ziC:Value}
  {ziD ziE:Option Addr} {ziF:Array (Option Value)} {ziG ziH ziI ziJ ziK ziL:Value}
  {ziM ziN:Option Addr} {ziO:Array (Option Value)} {ziP ziQ ziR ziS ziT ziU:Value}
  {ziV ziW:Option Addr} {ziX:Array (Option Value)} {ziY ziZ zja zjb zjc zjd:Value}
  {zje zjf:Option Addr} {zjg:Array (Option Value)} {zjh zji zjj zjk zjl zjm:Value}
  {zjn zjo:Option Addr} {zjp:Array (Option Value)} {zjq zjr zjs zjt zju zjv:Value}
  {zjw zjx:Option Addr} {zjy:Array (Option Value)} {zjz zjA zjB zjC zjD zjE:Value}
  {zjF zjG:Option Addr} {zjH:Array (Option Value)} {zjI zjJ zjK zjL zjM zjN:Value}
  {zjO zjP:Option Addr} {zjQ:Array (Option Value)} {zjR zjS zjT zjU zjV zjW:Value}
  {zjX zjY:Option Addr} {zjZ:Array (Option Value)} {zka zkb zkc zkd zke zkf:Value}
  {zkg zkh:Option Addr} {zki:Array (Option Value)} {zkj zkk zkl zkm zkn zko:Value}
  {zkp zkq:Option Addr} {zkr:Array (Option Value)} {zks zkt zku zkv zkw zkx:Value}
  {zky zkz:Option Addr} {zkA:Array (Option Value)} {zkB zkC zkD zkE zkF zkG:Value}
  {zkH zkI zkJ zkK zkL zkM zkN zkO zkP zkQ:Tok}
  {zkR:Obj} {zkS:Obj} {zkT:Obj}
  (zkU:PySem.W.nsIn K mainGlobals "Row" = some (some (.ref zah)))
  (zkV:PySem.W.nsIn K mainGlobals "Clause" = some (some (.ref zai)))
  (zkW:PySem.W.nsIn K mainGlobals "Duty" = some (some (.ref zaj)))
  (zkX:PySem.W.nsIn K mainGlobals "Leave" = some (some (.ref zak)))
  (zkY:PySem.W.nsIn K mainGlobals "Ban" = some (some (.ref zal)))
  (zkZ:PySem.W.nsIn K mainGlobals "Power" = some (some (.ref zam)))
  (zla:PySem.W.nsIn K mainGlobals "Let" = some (some (.ref zan)))
  (zlb:PySem.W.nsIn K mainGlobals "Part" = some (some (.ref zao)))
  (zlc:PySem.W.nsIn K mainGlobals "Pact" = some (some (.ref zap)))
  (zld:PySem.W.nsIn K mainGlobals "PactError" = some (some (.ref zaq)))
  (zle:PySem.W.nsIn K mainGlobals "NoText" = some (some (.ref zar)))
  (zlf:PySem.W.nsIn K mainGlobals "Body" = some (some (.ref zas)))
  (zlg:PySem.W.nsIn K mainGlobals "KEPT" = some (some (.ref zat)))
  (zlh:PySem.W.nsIn K mainGlobals "LETTERS" = some (some (.str "abcdefghijklmnopqrstuvwxyz" zkH)))
  (zli:PySem.W.nsIn K mainGlobals "FIGURES" = some (some (.str "0123456789" zkI)))
  (zlj:PySem.W.nsIn K mainGlobals "MOST_LETTERS" = some (some (.int 8 zkJ)))
  (zlk:PySem.W.nsIn K mainGlobals "MOST_FIGURES" = some (some (.int 20 zkK)))
  (zll:PySem.W.nsIn K mainGlobals "MARKS" = some (some (.ref zau)))
  (zlm:PySem.W.nsIn K mainGlobals "MOST_ROOMS" = some (some (.int 12 zkL)))
  (zln:PySem.W.nsIn K mainGlobals "MOST_PARTIES" = some (some (.int 4 zkM)))
  (zlo:PySem.W.nsIn K mainGlobals "MOST_ACTS" = some (some (.int 6 zkN)))
  (zlp:PySem.W.nsIn K mainGlobals "MOST_ROWS" = some (some (.int 90 zkO)))
  (zlq:PySem.W.nsIn K mainGlobals "MOST_OPEN" = some (some (.int 6 zkP)))
  (zlr:PySem.W.nsIn K mainGlobals "FIRST_ROOM" = some (some (.int 2 zkQ)))
  (zls:PySem.W.findIn K (.ref zah) "rows_told" = some (some (.ref za)))
  (zlt:K.lookup za=some ⟨zay,zav,.func (PySem.W.fnOf "rows_told" "Row.rows_told" (qz jP) (z9 jP) (z4 jP) .none zaz zaA zaB zaw zaC zaD),zax⟩)
  (zlu:PySem.W.codeIn K zaC "Row.rows_told" = true)
  (zlv:PySem.W.keepIn K (.ref za)=true)
  (zlw:PySem.W.findIn K (.ref zai) "__init__" = some (some (.ref zb)))
  (zlx:K.lookup zb=some ⟨zaH,zaE,.func (PySem.W.fnOf "__init__" "Clause.__init__" (qz jN) (z9 jN) (z4 jN) .none zaI zaJ zaK zaF zaL zaM),zaG⟩)
  (zly:PySem.W.codeIn K zaL "Clause.__init__" = true)
  (zlz:PySem.W.keepIn K (.ref zb)=true)
  (zlA:PySem.W.findIn K (.ref zai) "rows_told" = some (some (.ref zc)))
  (zlB:K.lookup zc=some ⟨zaQ,zaN,.func (PySem.W.fnOf "rows_told" "Clause.rows_told" (qz qL) (z9 qL) (z4 qL) .none zaR zaS zaT zaO zaU zaV),zaP⟩)
  (zlC:PySem.W.codeIn K zaU "Clause.rows_told" = true)
  (zlD:PySem.W.keepIn K (.ref zc)=true)
  (zlE:PySem.W.findIn K (.ref zai) "tail" = some (some (.ref zd)))
  (zlF:K.lookup zd=some ⟨zaZ,zaW,.func (PySem.W.fnOf "tail" "Clause.tail" (qz xw) (z9 xw) (z4 xw) .none zba zbb zbc zaX zbd zbe),zaY⟩)
  (zlG:PySem.W.codeIn K zbd "Clause.tail" = true)
  (zlH:PySem.W.keepIn K (.ref zd)=true)
  (zlI:PySem.W.findIn K (.ref zai) "number" = some (some (.ref ze)))
  (zlJ:K.lookup ze=some ⟨zbi,zbf,.func (PySem.W.fnOf "number" "Clause.number" (qz jB) (z9 jB) (z4 jB) .none zbj zbk zbl zbg zbm zbn),zbh⟩)
  (zlK:PySem.W.codeIn K zbm "Clause.number" = true)
  (zlL:PySem.W.keepIn K (.ref ze)=true)
  (zlM:PySem.W.findIn K (.ref zaj) "__init__" = some (some (.ref zf)))
  (zlN:K.lookup zf=some ⟨zbr,zbo,.func (PySem.W.fnOf "__init__" "Duty.__init__" (qz xZ) (z9 xZ) (z4 xZ) .none zbs zbt zbu zbp zbv zbw),zbq⟩)
  (zlO:PySem.W.codeIn K zbv "Duty.__init__" = true)
  (zlP:PySem.W.keepIn K (.ref zf)=true)
  (zlQ:PySem.W.findIn K (.ref zaj) "tail" = some (some (.ref zg)))
  (zlR:K.lookup zg=some ⟨zbA,zbx,.func (PySem.W.fnOf "tail" "Duty.tail" (qz xQ) (z9 xQ) (z4 xQ) .none zbB zbC zbD zby zbE zbF),zbz⟩)
  (zlS:PySem.W.codeIn K zbE "Duty.tail" = true)
  (zlT:PySem.W.keepIn K (.ref zg)=true)
  (zlU:PySem.W.findIn K (.ref zaj) "number" = some (some (.ref zh)))
  (zlV:K.lookup zh=some ⟨zbJ,zbG,.func (PySem.W.fnOf "number" "Duty.number" (qz xy) (z9 xy) (z4 xy) .none zbK zbL zbM zbH zbN zbO),zbI⟩)
  (zlW:PySem.W.codeIn K zbN "Duty.number" = true)
  (zlX:PySem.W.keepIn K (.ref zh)=true)
  (zlY:PySem.W.findIn K (.ref zak) "tail" = some (some (.ref zi)))
  (zlZ:K.lookup zi=some ⟨zbS,zbP,.func (PySem.W.fnOf "tail" "Leave.tail" (qz j9) (z9 j9) (z4 j9) .none zbT zbU zbV zbQ zbW zbX),zbR⟩)
  (zma:PySem.W.codeIn K zbW "Leave.tail" = true)
  (zmb:PySem.W.keepIn K (.ref zi)=true)
  (zmc:PySem.W.findIn K (.ref zal) "__init__" = some (some (.ref zj)))
  (zmd:K.lookup zj=some ⟨zcb,zbY,.func (PySem.W.fnOf "__init__" "Ban.__init__" (qz kq) (z9 kq) (z4 kq) .none zcc zcd zce zbZ zcf zcg),zca⟩)
  (zme:PySem.W.codeIn K zcf "Ban.__init__" = true)
  (zmf:PySem.W.keepIn K (.ref zj)=true)
  (zmg:PySem.W.findIn K (.ref zal) "tail" = some (some (.ref zk)))
  (zmh:K.lookup zk=some ⟨zck,zch,.func (PySem.W.fnOf "tail" "Ban.tail" (qz kj) (z9 kj) (z4 kj) .none zcl zcm zcn zci zco zcp),zcj⟩)
  (zmi:PySem.W.codeIn K zco "Ban.tail" = true)
  (zmj:PySem.W.keepIn K (.ref zk)=true)
  (zmk:PySem.W.findIn K (.ref zam) "__init__" = some (some (.ref zl)))
  (zml:K.lookup zl=some ⟨zct,zcq,.func (PySem.W.fnOf "__init__" "Power.__init__" (qz xq) (z9 xq) (z4 xq) .none zcu zcv zcw zcr zcx zcy),zcs⟩)
  (zmm:PySem.W.codeIn K zcx "Power.__init__" = true)
  (zmn:PySem.W.keepIn K (.ref zl)=true)
  (zmo:PySem.W.findIn K (.ref zam) "tail" = some (some (.ref zm)))
  (zmp:K.lookup zm=some ⟨zcC,zcz,.func (PySem.W.fnOf "tail" "Power.tail" (qz xj) (z9 xj) (z4 xj) .none zcD zcE zcF zcA zcG zcH),zcB⟩)
  (zmq:PySem.W.codeIn K zcG "Power.tail" = true)
  (zmr:PySem.W.keepIn K (.ref zm)=true)
  (zms:PySem.W.findIn K (.ref zan) "__init__" = some (some (.ref zn)))
  (zmt:K.lookup zn=some ⟨zcL,zcI,.func (PySem.W.fnOf "__init__" "Let.__init__" (qz kx) (z9 kx) (z4 kx) .none zcM zcN zcO zcJ zcP zcQ),zcK⟩)
  (zmu:PySem.W.codeIn K zcP "Let.__init__" = true)
  (zmv:PySem.W.keepIn K (.ref zn)=true)
  (zmw:PySem.W.findIn K (.ref zan) "rows_told" = some (some (.ref zo)))
  (zmx:K.lookup zo=some ⟨zcU,zcR,.func (PySem.W.fnOf "rows_told" "Let.rows_told" (qz jr) (z9 jr) (z4 jr) .none zcV zcW zcX zcS zcY zcZ),zcT⟩)
  (zmy:PySem.W.codeIn K zcY "Let.rows_told" = true)
  (zmz:PySem.W.keepIn K (.ref zo)=true)
  (zmA:PySem.W.findIn K (.ref zao) "__init__" = some (some (.ref zp)))
  (zmB:K.lookup zp=some ⟨zdd,zda,.func (PySem.W.fnOf "__init__" "Part.__init__" (qz xX) (z9 xX) (z4 xX) .none zde zdf zdg zdb zdh zdi),zdc⟩)
  (zmC:PySem.W.codeIn K zdh "Part.__init__" = true)
  (zmD:PySem.W.keepIn K (.ref zp)=true)
  (zmE:PySem.W.findIn K (.ref zao) "rows_told" = some (some (.ref zq)))
  (zmF:K.lookup zq=some ⟨zdm,zdj,.func (PySem.W.fnOf "rows_told" "Part.rows_told" (qz jh) (z9 jh) (z4 jh) .none zdn zdo zdp zdk zdq zdr),zdl⟩)
  (zmG:PySem.W.codeIn K zdq "Part.rows_told" = true)
  (zmH:PySem.W.keepIn K (.ref zq)=true)
  (zmI:PySem.W.findIn K (.ref zao) "first_row" = some (some (.ref zr)))
  (zmJ:K.lookup zr=some ⟨zdv,zds,.func (PySem.W.fnOf "first_row" "Part.first_row" (qz jg) (z9 jg) (z4 jg) .none zdw zdx zdy zdt zdz zdA),zdu⟩)
  (zmK:PySem.W.codeIn K zdz "Part.first_row" = true)
  (zmL:PySem.W.keepIn K (.ref zr)=true)
  (zmM:PySem.W.findIn K (.ref zap) "__init__" = some (some (.ref zs)))
  (zmN:K.lookup zs=some ⟨zdE,zdB,.func (PySem.W.fnOf "__init__" "Pact.__init__" (qz xJ) (z9 xJ) (z4 xJ) .none zdF zdG zdH zdC zdI zdJ),zdD⟩)
  (zmO:PySem.W.codeIn K zdI "Pact.__init__" = true)
  (zmP:PySem.W.keepIn K (.ref zs)=true)
  (zmQ:PySem.W.nsIn K mainGlobals "shown" = some (some (.ref zt)))
  (zmR:K.lookup zt=some ⟨zdN,zdK,.func (PySem.W.fnOf "shown" "shown" (qz vw) (z9 vw) (z4 vw) .none zdO zdP zdQ zdL zdR zdS),zdM⟩)
  (zmS:PySem.W.codeIn K zdR "shown" = true)
  (zmT:PySem.W.keepIn K (.ref zt)=true)
  (zmU:PySem.W.findIn K (.ref zar) "__init__" = some (some (.ref zu)))
  (zmV:K.lookup zu=some ⟨zdW,zdT,.func (PySem.W.fnOf "__init__" "NoText.__init__" (qz jO) (z9 jO) (z4 jO) .none zdX zdY zdZ zdU zea zeb),zdV⟩)
  (zmW:PySem.W.codeIn K zea "NoText.__init__" = true)
  (zmX:PySem.W.keepIn K (.ref zu)=true)
  (zmY:PySem.W.nsIn K mainGlobals "is_name" = some (some (.ref zv)))
  (zmZ:K.lookup zv=some ⟨zef,zec,.func (PySem.W.fnOf "is_name" "is_name" (qz xK) (z9 xK) (z4 xK) .none zeg zeh zei zed zej zek),zee⟩)
  (zna:PySem.W.codeIn K zej "is_name" = true)
  (znb:PySem.W.keepIn K (.ref zv)=true)
  (znc:PySem.W.nsIn K mainGlobals "number_of" = some (some (.ref zw)))
  (znd:K.lookup zw=some ⟨zeo,zel,.func (PySem.W.fnOf "number_of" "number_of" (qz jE) (z9 jE) (z4 jE) .none zep zeq zer zem zes zet),zen⟩)
  (zne:PySem.W.codeIn K zes "number_of" = true)
  (znf:PySem.W.keepIn K (.ref zw)=true)
  (zng:PySem.W.nsIn K mainGlobals "written_with" = some (some (.ref zx)))
  (znh:K.lookup zx=some ⟨zex,zeu,.func (PySem.W.fnOf "written_with" "written_with" (qz q9) (z9 q9) (z4 q9) .none zey zez zeA zev zeB zeC),zew⟩)
  (zni:PySem.W.codeIn K zeB "written_with" = true)
  (znj:PySem.W.keepIn K (.ref zx)=true)
  (znk:PySem.W.nsIn K mainGlobals "names_of" = some (some (.ref zy)))
  (znl:K.lookup zy=some ⟨zeG,zeD,.func (PySem.W.fnOf "names_of" "names_of" (qz xx) (z9 xx) (z4 xx) .none zeH zeI zeJ zeE zeK zeL),zeF⟩)
  (znm:PySem.W.codeIn K zeK "names_of" = true)
  (znn:PySem.W.keepIn K (.ref zy)=true)
  (zno:PySem.W.nsIn K mainGlobals "are_names" = some (some (.ref zz)))
  (znp:K.lookup zz=some ⟨zeP,zeM,.func (PySem.W.fnOf "are_names" "are_names" (qz je) (z9 je) (z4 je) .none zeQ zeR zeS zeN zeT zeU),zeO⟩)
  (znq:PySem.W.codeIn K zeT "are_names" = true)
  (znr:PySem.W.keepIn K (.ref zz)=true)
  (zns:PySem.W.nsIn K mainGlobals "room_of" = some (some (.ref zA)))
  (znt:K.lookup zA=some ⟨zeY,zeV,.func (PySem.W.fnOf "room_of" "room_of" (qz xW) (z9 xW) (z4 xW) .none zeZ zfa zfb zeW zfc zfd),zeX⟩)
  (znu:PySem.W.codeIn K zfc "room_of" = true)
  (znv:PySem.W.keepIn K (.ref zA)=true)
  (znw:PySem.W.nsIn K mainGlobals "let_of" = some (some (.ref zB)))
  (znx:K.lookup zB=some ⟨zfh,zfe,.func (PySem.W.fnOf "let_of" "let_of" (qz ky) (z9 ky) (z4 ky) .none zfi zfj zfk zff zfl zfm),zfg⟩)
  (zny:PySem.W.codeIn K zfl "let_of" = true)
  (znz:PySem.W.keepIn K (.ref zB)=true)
  (znA:PySem.W.nsIn K mainGlobals "part_of" = some (some (.ref zC)))
  (znB:K.lookup zC=some ⟨zfq,zfn,.func (PySem.W.fnOf "part_of" "part_of" (qz xV) (z9 xV) (z4 xV) .none zfr zfs zft zfo zfu zfv),zfp⟩)
  (znC:PySem.W.codeIn K zfu "part_of" = true)
  (znD:PySem.W.keepIn K (.ref zC)=true)
  (znE:PySem.W.nsIn K mainGlobals "clause_of" = some (some (.ref zD)))
  (znF:K.lookup zD=some ⟨zfz,zfw,.func (PySem.W.fnOf "clause_of" "clause_of" (qz jI) (z9 jI) (z4 jI) .none zfA zfB zfC zfx zfD zfE),zfy⟩)
  (znG:PySem.W.codeIn K zfD "clause_of" = true)
  (znH:PySem.W.keepIn K (.ref zD)=true)
  (znI:PySem.W.nsIn K mainGlobals "fits_form" = some (some (.ref zE)))
  (znJ:K.lookup zE=some ⟨zfI,zfF,.func (PySem.W.fnOf "fits_form" "fits_form" (qz ja) (z9 ja) (z4 ja) .none zfJ zfK zfL zfG zfM zfN),zfH⟩)
  (znK:PySem.W.codeIn K zfM "fits_form" = true)
  (znL:PySem.W.keepIn K (.ref zE)=true)
  (znM:PySem.W.nsIn K mainGlobals "fits_place" = some (some (.ref zF)))
  (znN:K.lookup zF=some ⟨zfR,zfO,.func (PySem.W.fnOf "fits_place" "fits_place" (qz jJ) (z9 jJ) (z4 jJ) .none zfS zfT zfU zfP zfV zfW),zfQ⟩)
  (znO:PySem.W.codeIn K zfV "fits_place" = true)
  (znP:PySem.W.keepIn K (.ref zF)=true)
  (znQ:PySem.W.nsIn K mainGlobals "read" = some (some (.ref zG)))
  (znR:K.lookup zG=some ⟨zga,zfX,.func (PySem.W.fnOf "read" "read" (qz we) (z9 we) (z4 we) .none zgb zgc zgd zfY zge zgf),zfZ⟩)
  (znS:PySem.W.codeIn K zge "read" = true)
  (znT:PySem.W.keepIn K (.ref zG)=true)
  (znU:PySem.W.nsIn K mainGlobals "read_names" = some (some (.ref zH)))
  (znV:K.lookup zH=some ⟨zgj,zgg,.func (PySem.W.fnOf "read_names" "read_names" (qz jX) (z9 jX) (z4 jX) .none zgk zgl zgm zgh zgn zgo),zgi⟩)
  (znW:PySem.W.codeIn K zgn "read_names" = true)
  (znX:PySem.W.keepIn K (.ref zH)=true)
  (znY:PySem.W.nsIn K mainGlobals "told_once" = some (some (.ref zI)))
  (znZ:K.lookup zI=some ⟨zgs,zgp,.func (PySem.W.fnOf "told_once" "told_once" (qz jA) (z9 jA) (z4 jA) .none zgt zgu zgv zgq zgw zgx),zgr⟩)
  (zoa:PySem.W.codeIn K zgw "told_once" = true)
  (zob:PySem.W.keepIn K (.ref zI)=true)
  (zoc:PySem.W.nsIn K mainGlobals "read_rooms" = some (some (.ref zJ)))
  (zod:K.lookup zJ=some ⟨zgB,zgy,.func (PySem.W.fnOf "read_rooms" "read_rooms" (qz ju) (z9 ju) (z4 ju) .none zgC zgD zgE zgz zgF zgG),zgA⟩)
  (zoe:PySem.W.codeIn K zgF "read_rooms" = true)
  (zof:PySem.W.keepIn K (.ref zJ)=true)
  (zog:PySem.W.nsIn K mainGlobals "read_whole" = some (some (.ref zK)))
  (zoh:K.lookup zK=some ⟨zgK,zgH,.func (PySem.W.fnOf "read_whole" "read_whole" (qz jK) (z9 jK) (z4 jK) .none zgL zgM zgN zgI zgO zgP),zgJ⟩)
  (zoi:PySem.W.codeIn K zgO "read_whole" = true)
  (zoj:PySem.W.keepIn K (.ref zK)=true)
  (zok:PySem.W.findIn K (.ref zas) "__init__" = some (some (.ref zL)))
  (zol:K.lookup zL=some ⟨zgT,zgQ,.func (PySem.W.fnOf "__init__" "Body.__init__" (qz xa) (z9 xa) (z4 xa) .none zgU zgV zgW zgR zgX zgY),zgS⟩)
  (zom:PySem.W.codeIn K zgX "Body.__init__" = true)
  (zon:PySem.W.keepIn K (.ref zL)=true)
  (zoo:PySem.W.findIn K (.ref zas) "many_open" = some (some (.ref zM)))
  (zop:K.lookup zM=some ⟨zhc,zgZ,.func (PySem.W.fnOf "many_open" "Body.many_open" (qz jy) (z9 jy) (z4 jy) .none zhd zhe zhf zha zhg zhh),zhb⟩)
  (zoq:PySem.W.codeIn K zhg "Body.many_open" = true)
  (zor:PySem.W.keepIn K (.ref zM)=true)
  (zos:PySem.W.findIn K (.ref zas) "takes" = some (some (.ref zN)))
  (zot:K.lookup zN=some ⟨zhl,zhi,.func (PySem.W.fnOf "takes" "Body.takes" (qz j8) (z9 j8) (z4 j8) .none zhm zhn zho zhj zhp zhq),zhk⟩)
  (zou:PySem.W.codeIn K zhp "Body.takes" = true)
  (zov:PySem.W.keepIn K (.ref zN)=true)
  (zow:PySem.W.findIn K (.ref zas) "takes_done" = some (some (.ref zO)))
  (zox:K.lookup zO=some ⟨zhu,zhr,.func (PySem.W.fnOf "takes_done" "Body.takes_done" (qz jz) (z9 jz) (z4 jz) .none zhv zhw zhx zhs zhy zhz),zht⟩)
  (zoy:PySem.W.codeIn K zhy "Body.takes_done" = true)
  (zoz:PySem.W.keepIn K (.ref zO)=true)
  (zoA:PySem.W.findIn K (.ref zas) "takes_head" = some (some (.ref zP)))
  (zoB:K.lookup zP=some ⟨zhD,zhA,.func (PySem.W.fnOf "takes_head" "Body.takes_head" (qz jq) (z9 jq) (z4 jq) .none zhE zhF zhG zhB zhH zhI),zhC⟩)
  (zoC:PySem.W.codeIn K zhH "Body.takes_head" = true)
  (zoD:PySem.W.keepIn K (.ref zP)=true)
  (zoE:PySem.W.findIn K (.ref zas) "takes_clause" = some (some (.ref zQ)))
  (zoF:K.lookup zQ=some ⟨zhM,zhJ,.func (PySem.W.fnOf "takes_clause" "Body.takes_clause" (qz qT) (z9 qT) (z4 qT) .none zhN zhO zhP zhK zhQ zhR),zhL⟩)
  (zoG:PySem.W.codeIn K zhQ "Body.takes_clause" = true)
  (zoH:PySem.W.keepIn K (.ref zQ)=true)
  (zoI:PySem.W.findIn K (.ref zas) "put_in" = some (some (.ref zR)))
  (zoJ:K.lookup zR=some ⟨zhV,zhS,.func (PySem.W.fnOf "put_in" "Body.put_in" (qz jT) (z9 jT) (z4 jT) .none zhW zhX zhY zhT zhZ zia),zhU⟩)
  (zoK:PySem.W.codeIn K zhZ "Body.put_in" = true)
  (zoL:PySem.W.keepIn K (.ref zR)=true)
  (zoM:PySem.W.findIn K (.ref zas) "closed" = some (some (.ref zS)))
  (zoN:K.lookup zS=some ⟨zie,zib,.func (PySem.W.fnOf "closed" "Body.closed" (qz jS) (z9 jS) (z4 jS) .none zif zig zih zic zii zij),zid⟩)
  (zoO:PySem.W.codeIn K zii "Body.closed" = true)
  (zoP:PySem.W.keepIn K (.ref zS)=true)
  (zoQ:PySem.W.nsIn K mainGlobals "_law_cell_at" = some (some (.ref zT)))
  (zoR:K.lookup zT=some ⟨zin,zik,.func (PySem.W.fnOf "_law_cell_at" "_law_cell_at" (qz xY) (z9 xY) (z4 xY) .none zio ziq zir zil zis zit),zim⟩)
  (zoS:PySem.W.codeIn K zis "_law_cell_at" = true)
  (zoT:PySem.W.keepIn K (.ref zT)=true)
  (zoU:PySem.W.nsIn K mainGlobals "_law_mix" = some (some (.ref zU)))
  (zoV:K.lookup zU=some ⟨zix,ziu,.func (PySem.W.fnOf "_law_mix" "_law_mix" (qz yM) (z9 yM) (z4 yM) .none ziy ziz ziA ziv ziB ziC),ziw⟩)
  (zoW:PySem.W.codeIn K ziB "_law_mix" = true)
  (zoX:PySem.W.keepIn K (.ref zU)=true)
  (zoY:PySem.W.nsIn K mainGlobals "_law_name" = some (some (.ref zV)))
  (zoZ:K.lookup zV=some ⟨ziG,ziD,.func (PySem.W.fnOf "_law_name" "_law_name" (qz wZ) (z9 wZ) (z4 wZ) .none ziH ziI ziJ ziE ziK ziL),ziF⟩)
  (zpa:PySem.W.codeIn K ziK "_law_name" = true)
  (zpb:PySem.W.keepIn K (.ref zV)=true)
  (zpc:PySem.W.nsIn K mainGlobals "_law_event" = some (some (.ref zW)))
  (zpd:K.lookup zW=some ⟨ziP,ziM,.func (PySem.W.fnOf "_law_event" "_law_event" (qz xI) (z9 xI) (z4 xI) .none ziQ ziR ziS ziN ziT ziU),ziO⟩)
  (zpe:PySem.W.codeIn K ziT "_law_event" = true)
  (zpf:PySem.W.keepIn K (.ref zW)=true)
  (zpg:PySem.W.nsIn K mainGlobals "_law_events" = some (some (.ref zX)))
  (zph:K.lookup zX=some ⟨ziY,ziV,.func (PySem.W.fnOf "_law_events" "_law_events" (qz kh) (z9 kh) (z4 kh) .none ziZ zja zjb ziW zjc zjd),ziX⟩)
  (zpi:PySem.W.codeIn K zjc "_law_events" = true)
  (zpj:PySem.W.keepIn K (.ref zX)=true)
  (zpk:PySem.W.nsIn K mainGlobals "_law_header" = some (some (.ref zY)))
  (zpl:K.lookup zY=some ⟨zjh,zje,.func (PySem.W.fnOf "_law_header" "_law_header" (qz kf) (z9 kf) (z4 kf) .none zji zjj zjk zjf zjl zjm),zjg⟩)
  (zpm:PySem.W.codeIn K zjl "_law_header" = true)
  (zpn:PySem.W.keepIn K (.ref zY)=true)
  (zpo:PySem.W.nsIn K mainGlobals "_law_row" = some (some (.ref zZ)))
  (zpp:K.lookup zZ=some ⟨zjq,zjn,.func (PySem.W.fnOf "_law_row" "_law_row" (qz yD) (z9 yD) (z4 yD) .none zjr zjs zjt zjo zju zjv),zjp⟩)
  (zpq:PySem.W.codeIn K zju "_law_row" = true)
  (zpr:PySem.W.keepIn K (.ref zZ)=true)
  (zps:PySem.W.nsIn K mainGlobals "_law_rows" = some (some (.ref zaa)))
  (zpt:K.lookup zaa=some ⟨zjz,zjw,.func (PySem.W.fnOf "_law_rows" "_law_rows" (qz vi) (z9 vi) (z4 vi) .none zjA zjB zjC zjx zjD zjE),zjy⟩)
  (zpu:PySem.W.codeIn K zjD "_law_rows" = true)
  (zpv:PySem.W.keepIn K (.ref zaa)=true)
  (zpw:PySem.W.nsIn K mainGlobals "_law_clause" = some (some (.ref zab)))
  (zpx:K.lookup zab=some ⟨zjI,zjF,.func (PySem.W.fnOf "_law_clause" "_law_clause" (qz kg) (z9 kg) (z4 kg) .none zjJ zjK zjL zjG zjM zjN),zjH⟩)
  (zpy:PySem.W.codeIn K zjM "_law_clause" = true)
  (zpz:PySem.W.keepIn K (.ref zab)=true)
  (zpA:PySem.W.nsIn K mainGlobals "_law_found" = some (some (.ref zac)))
  (zpB:K.lookup zac=some ⟨zjR,zjO,.func (PySem.W.fnOf "_law_found" "_law_found" (qz vy) (z9 vy) (z4 vy) .none zjS zjT zjU zjP zjV zjW),zjQ⟩)
  (zpC:PySem.W.codeIn K zjV "_law_found" = true)
  (zpD:PySem.W.keepIn K (.ref zac)=true)
  (zpE:PySem.W.nsIn K mainGlobals "_law_object" = some (some (.ref zad)))
  (zpF:K.lookup zad=some ⟨zka,zjX,.func (PySem.W.fnOf "_law_object" "_law_object" (qz km) (z9 km) (z4 km) .none zkb zkc zkd zjY zke zkf),zjZ⟩)
  (zpG:PySem.W.codeIn K zke "_law_object" = true)
  (zpH:PySem.W.keepIn K (.ref zad)=true)
  (zpI:PySem.W.nsIn K mainGlobals "_law_whole_part" = some (some (.ref zae)))
  (zpJ:K.lookup zae=some ⟨zkj,zkg,.func (PySem.W.fnOf "_law_whole_part" "_law_whole_part" (qz jV) (z9 jV) (z4 jV) .none zkk zkl zkm zkh zkn zko),zki⟩)
  (zpK:PySem.W.codeIn K zkn "_law_whole_part" = true)
  (zpL:PySem.W.keepIn K (.ref zae)=true)
  (zpM:PySem.W.nsIn K mainGlobals "_law_made" = some (some (.ref zaf)))
  (zpN:K.lookup zaf=some ⟨zks,zkp,.func (PySem.W.fnOf "_law_made" "_law_made" (qz wa) (z9 wa) (z4 wa) .none zkt zku zkv zkq zkw zkx),zkr⟩)
  (zpO:PySem.W.codeIn K zkw "_law_made" = true)
  (zpP:PySem.W.keepIn K (.ref zaf)=true)
  (zpQ:PySem.W.nsIn K mainGlobals "law" = some (some (.ref zag)))
  (zpR:K.lookup zag=some ⟨zkB,zky,.func (PySem.W.fnOf "law" "law" (qz yq) (z9 yq) (z4 yq) .none zkC zkD zkE zkz zkF zkG),zkA⟩)
  (zpS:PySem.W.codeIn K zkF "law" = true)
  (zpT:PySem.W.keepIn K (.ref zag)=true)
  (zpU:PySem.W.nsIn K mainGlobals "list" = some none)
  (zpV:PySem.W.nsIn K mainGlobals "len" = some none)
  (zpW:PySem.W.nsIn K mainGlobals "range" = some none)
  (zpX:PySem.W.nsIn K mainGlobals "all" = some none)
  (zpY:PySem.W.nsIn K mainGlobals "int" = some none)
  (zpZ:PySem.W.nsIn K mainGlobals "str" = some none)
  (zqa:PySem.W.nsIn K mainGlobals "isinstance" = some none)
  (zqb:PySem.W.nsIn K mainGlobals "bool" = some none)
  (zqc:PySem.W.nsIn K mainGlobals "zip" = some none)
  (zqd:PySem.W.nsIn K mainGlobals "ValueError" = some none)
  (zqe:PySem.W.nsIn K mainGlobals "set" = some none)
  (zqf:K.lookup zat=some zkR)
  (zqg:∃(its:Array Value) (n:Nat),zkR.cls=.type "tuple"∧zkR.data=.seq its n∧its.size≤sizeLine∧Vals (gW.map V.str) its.toList)
  (zqh:K.lookup zau=some zkS)
  (zqi:∃(its:Array Value) (n:Nat),zkS.cls=.type "tuple"∧zkS.data=.seq its n∧its.size≤sizeLine∧Vals (xo.map V.str) its.toList)
  (zqj:PySem.W.plainGet K zai Str.empty=true)
  (zqk:PySem.W.hasDictIn K zai=true)
  (zql:PySem.W.plainOver K zai=true)
  (zqm:PySem.W.findIn K (.ref zai) "__setattr__" = some (some (.builtin "object.__setattr__")))
  (zqn:PySem.W.findIn K (.ref zai) "act" = some none)
  (zqo:PySem.W.findIn K (.ref zai) "label" = some none)
  (zqp:PySem.W.findIn K (.ref zai) "room" = some none)
  (zqq:PySem.W.findIn K (.ref zai) "turns" = some none)
  (zqr:PySem.W.findIn K (.ref zai) "who" = some none)
  (zqs:PySem.W.makesIn K zai=true)
  (zqt:PySem.W.findIn K (.ref zai) "__init__" = some (some (.ref zb)))
  (zqu:PySem.W.isFn K (.ref zb)=true)
  (zqv:PySem.W.keepIn K (.ref zai)=true)
  (zqw:PySem.W.plainGet K zaj Str.empty=true)
  (zqx:PySem.W.hasDictIn K zaj=true)
  (zqy:PySem.W.plainOver K zaj=true)
  (zqz:PySem.W.findIn K (.ref zaj) "__setattr__" = some (some (.builtin "object.__setattr__")))
  (zqA:PySem.W.findIn K (.ref zaj) "act" = some none)
  (zqB:PySem.W.findIn K (.ref zaj) "label" = some none)
  (zqC:PySem.W.findIn K (.ref zaj) "room" = some none)
  (zqD:PySem.W.findIn K (.ref zaj) "turns" = some none)
  (zqE:PySem.W.findIn K (.ref zaj) "who" = some none)
  (zqF:PySem.W.makesIn K zaj=true)
  (zqG:PySem.W.findIn K (.ref zaj) "__init__" = some (some (.ref zf)))
  (zqH:PySem.W.isFn K (.ref zf)=true)
  (zqI:PySem.W.keepIn K (.ref zaj)=true)
  (zqJ:PySem.W.findIn K (.ref zaj) "tail" = some (some (.ref zg)))
  (zqK:PySem.W.isFn K (.ref zg)=true)
  (zqL:PySem.W.findIn K (.ref zaj) "rows_told" = some (some (.ref zc)))
  (zqM:PySem.W.isFn K (.ref zc)=true)
  (zqN:PySem.W.plainGet K zak Str.empty=true)
  (zqO:PySem.W.hasDictIn K zak=true)
  (zqP:PySem.W.plainOver K zak=true)
  (zqQ:PySem.W.findIn K (.ref zak) "__setattr__" = some (some (.builtin "object.__setattr__")))
  (zqR:PySem.W.findIn K (.ref zak) "act" = some none)
  (zqS:PySem.W.findIn K (.ref zak) "label" = some none)
  (zqT:PySem.W.findIn K (.ref zak) "room" = some none)
  (zqU:PySem.W.findIn K (.ref zak) "turns" = some none)
  (zqV:PySem.W.findIn K (.ref zak) "who" = some none)
  (zqW:PySem.W.findIn K (.ref zak) "tail" = some (some (.ref zi)))
  (zqX:PySem.W.isFn K (.ref zi)=true)
  (zqY:PySem.W.makesIn K zak=true)
  (zqZ:PySem.W.findIn K (.ref zak) "__init__" = some (some (.ref zb)))
  (zra:PySem.W.isFn K (.ref zb)=true)
  (zrb:PySem.W.keepIn K (.ref zak)=true)
  (zrc:PySem.W.findIn K (.ref zak) "rows_told" = some (some (.ref zc)))
  (zrd:PySem.W.isFn K (.ref zc)=true)
  (zre:PySem.W.plainGet K zal Str.empty=true)
  (zrf:PySem.W.hasDictIn K zal=true)
  (zrg:PySem.W.plainOver K zal=true)
  (zrh:PySem.W.findIn K (.ref zal) "__setattr__" = some (some (.builtin "object.__setattr__")))
  (zri:PySem.W.findIn K (.ref zal) "act" = some none)
  (zrj:PySem.W.findIn K (.ref zal) "label" = some none)
  (zrk:PySem.W.findIn K (.ref zal) "room" = some none)
  (zrl:PySem.W.findIn K (.ref zal) "turns" = some none)
  (zrm:PySem.W.findIn K (.ref zal) "who" = some none)
  (zrn:PySem.W.makesIn K zal=true)
  (zro:PySem.W.findIn K (.ref zal) "__init__" = some (some (.ref zj)))
  (zrp:PySem.W.isFn K (.ref zj)=true)
  (zrq:PySem.W.keepIn K (.ref zal)=true)
  (zrr:PySem.W.findIn K (.ref zal) "tail" = some (some (.ref zk)))
  (zrs:PySem.W.isFn K (.ref zk)=true)
  (zrt:PySem.W.findIn K (.ref zal) "rows_told" = some (some (.ref zc)))
  (zru:PySem.W.isFn K (.ref zc)=true)
  (zrv:PySem.W.plainGet K zam Str.empty=true)
  (zrw:PySem.W.hasDictIn K zam=true)
  (zrx:PySem.W.plainOver K zam=true)
  (zry:PySem.W.findIn K (.ref zam) "__setattr__" = some (some (.builtin "object.__setattr__")))
  (zrz:PySem.W.findIn K (.ref zam) "act" = some none)
  (zrA:PySem.W.findIn K (.ref zam) "label" = some none)
  (zrB:PySem.W.findIn K (.ref zam) "room" = some none)
  (zrC:PySem.W.findIn K (.ref zam) "turns" = some none)
  (zrD:PySem.W.findIn K (.ref zam) "who" = some none)
  (zrE:PySem.W.makesIn K zam=true)
  (zrF:PySem.W.findIn K (.ref zam) "__init__" = some (some (.ref zl)))
  (zrG:PySem.W.isFn K (.ref zl)=true)
  (zrH:PySem.W.keepIn K (.ref zam)=true)
  (zrI:PySem.W.findIn K (.ref zam) "tail" = some (some (.ref zm)))
  (zrJ:PySem.W.isFn K (.ref zm)=true)
  (zrK:PySem.W.findIn K (.ref zam) "rows_told" = some (some (.ref zc)))
  (zrL:PySem.W.isFn K (.ref zc)=true)
  (zrM:PySem.W.plainGet K zan Str.empty=true)
  (zrN:PySem.W.hasDictIn K zan=true)
  (zrO:PySem.W.plainOver K zan=true)
  (zrP:PySem.W.findIn K (.ref zan) "__setattr__" = some (some (.builtin "object.__setattr__")))
  (zrQ:PySem.W.findIn K (.ref zan) "name" = some none)
  (zrR:PySem.W.findIn K (.ref zan) "value" = some none)
  (zrS:PySem.W.makesIn K zan=true)
  (zrT:PySem.W.findIn K (.ref zan) "__init__" = some (some (.ref zn)))
  (zrU:PySem.W.isFn K (.ref zn)=true)
  (zrV:PySem.W.keepIn K (.ref zan)=true)
  (zrW:PySem.W.findIn K (.ref zan) "rows_told" = some (some (.ref zo)))
  (zrX:PySem.W.isFn K (.ref zo)=true)
  (zrY:PySem.W.plainGet K zao Str.empty=true)
  (zrZ:PySem.W.hasDictIn K zao=true)
  (zsa:PySem.W.plainOver K zao=true)
  (zsb:PySem.W.findIn K (.ref zao) "__setattr__" = some (some (.builtin "object.__setattr__")))
  (zsc:PySem.W.findIn K (.ref zao) "name" = some none)
  (zsd:PySem.W.findIn K (.ref zao) "rooms" = some none)
  (zse:PySem.W.findIn K (.ref zao) "rows" = some none)
  (zsf:PySem.W.makesIn K zao=true)
  (zsg:PySem.W.findIn K (.ref zao) "__init__" = some (some (.ref zp)))
  (zsh:PySem.W.isFn K (.ref zp)=true)
  (zsi:PySem.W.keepIn K (.ref zao)=true)
  (zsj:PySem.W.findIn K (.ref zao) "rows_told" = some (some (.ref zq)))
  (zsk:PySem.W.isFn K (.ref zq)=true)
  (zsl:PySem.W.findIn K (.ref zao) "first_row" = some (some (.ref zr)))
  (zsm:PySem.W.isFn K (.ref zr)=true)
  (zsn:PySem.W.plainGet K zap Str.empty=true)
  (zso:PySem.W.hasDictIn K zap=true)
  (zsp:PySem.W.plainOver K zap=true)
  (zsq:PySem.W.findIn K (.ref zap) "__setattr__" = some (some (.builtin "object.__setattr__")))
  (zsr:PySem.W.findIn K (.ref zap) "acts" = some none)
  (zss:PySem.W.findIn K (.ref zap) "parties" = some none)
  (zst:PySem.W.findIn K (.ref zap) "rooms" = some none)
  (zsu:PySem.W.findIn K (.ref zap) "whole" = some none)
  (zsv:PySem.W.makesIn K zap=true)
  (zsw:PySem.W.findIn K (.ref zap) "__init__" = some (some (.ref zs)))
  (zsx:PySem.W.isFn K (.ref zs)=true)
  (zsy:PySem.W.keepIn K (.ref zap)=true)
  (zsz:PySem.W.plainGet K zas Str.empty=true)
  (zsA:PySem.W.hasDictIn K zas=true)
  (zsB:PySem.W.plainOver K zas=true)
  (zsC:PySem.W.findIn K (.ref zas) "__setattr__" = some (some (.builtin "object.__setattr__")))
  (zsD:PySem.W.findIn K (.ref zas) "bodies" = some none)
  (zsE:PySem.W.findIn K (.ref zas) "heads" = some none)
  (zsF:PySem.W.findIn K (.ref zas) "labels" = some none)
  (zsG:PySem.W.makesIn K zas=true)
  (zsH:PySem.W.findIn K (.ref zas) "__init__" = some (some (.ref zL)))
  (zsI:PySem.W.isFn K (.ref zL)=true)
  (zsJ:PySem.W.keepIn K (.ref zas)=true)
  (zsK:PySem.W.findIn K (.ref zas) "many_open" = some (some (.ref zM)))
  (zsL:PySem.W.isFn K (.ref zM)=true)
  (zsM:PySem.W.findIn K (.ref zas) "takes" = some (some (.ref zN)))
  (zsN:PySem.W.isFn K (.ref zN)=true)
  (zsO:PySem.W.findIn K (.ref zas) "takes_done" = some (some (.ref zO)))
  (zsP:PySem.W.isFn K (.ref zO)=true)
  (zsQ:PySem.W.findIn K (.ref zas) "takes_head" = some (some (.ref zP)))
  (zsR:PySem.W.isFn K (.ref zP)=true)
  (zsS:PySem.W.findIn K (.ref zas) "takes_clause" = some (some (.ref zQ)))
  (zsT:PySem.W.isFn K (.ref zQ)=true)
  (zsU:PySem.W.findIn K (.ref zas) "put_in" = some (some (.ref zR)))
  (zsV:PySem.W.isFn K (.ref zR)=true)
  (zsW:PySem.W.findIn K (.ref zas) "closed" = some (some (.ref zS)))
  (zsX:PySem.W.isFn K (.ref zS)=true)
  (zsY:K.lookup zar=some zkT)
  (zsZ:Hk zar zkT=true)
  (zta:PySem.W.findIn K (.ref zar) "__setattr__" = some (some (.builtin "object.__setattr__")))
  (ztb:PySem.W.findIn K (.ref zar) "__init__" = some (some (.ref zu)))
  (ztc:PySem.W.isFn K (.ref zu)=true)
  (ztd:PySem.W.keepIn K (.ref zar)=true)
  (zte:PySem.W.findIn K (.ref zar) "row" = some none)
  (ztf:PySem.W.specialIn K (.ref zai) "__getattribute__" = some (some (.builtin "type.__getattribute__")))
  (ztg:PySem.W.readsIn K zai (.type "type")=true)
  (zth:PySem.W.findCls K (.ref zai) (.type "type") "__init__" = some (.val (.ref zb)))
  (zti:PySem.W.specialIn K (.ref zak) "__getattribute__" = some (some (.builtin "type.__getattribute__")))
  (ztj:PySem.W.readsIn K zak (.type "type")=true)
  (ztk:PySem.W.findCls K (.ref zak) (.type "type") "__init__" = some (.val (.ref zb)))
  (ztl:PySem.W.kitOne K (.ref zaj) (.ref zaj)=some true)
  (ztm:PySem.W.kitOne K (.ref zak) (.ref zaj)=some false)
  (ztn:PySem.W.kitOne K (.ref zak) (.ref zak)=some true)
  (zto:PySem.W.kitOne K (.ref zak) (.ref zal)=some false)
  (ztp:PySem.W.kitOne K (.ref zak) (.ref zam)=some false)
  (ztq:PySem.W.kitOne K (.ref zal) (.ref zaj)=some false)
  (ztr:PySem.W.kitOne K (.ref zal) (.ref zal)=some true)
  (zts:PySem.W.kitOne K (.ref zam) (.ref zaj)=some false)
  (ztt:PySem.W.kitOne K (.ref zam) (.ref zal)=some false)
  (ztu:PySem.W.kitOne K (.ref zam) (.ref zam)=some true)
  (ztv:PySem.W.kitOne K (.ref zaj) (.ref zao)=some false)
  (ztw:PySem.W.kitOne K (.ref zaj) (.ref zan)=some false)
  (ztx:PySem.W.kitOne K (.ref zak) (.ref zao)=some false)
  (zty:PySem.W.kitOne K (.ref zak) (.ref zan)=some false)
  (ztz:PySem.W.kitOne K (.ref zal) (.ref zao)=some false)
  (ztA:PySem.W.kitOne K (.ref zal) (.ref zan)=some false)
  (ztB:PySem.W.kitOne K (.ref zam) (.ref zao)=some false)
  (ztC:PySem.W.kitOne K (.ref zam) (.ref zan)=some false)
  (ztD:PySem.W.kitOne K (.ref zan) (.ref zao)=some false)
  (ztE:PySem.W.kitOne K (.ref zan) (.ref zan)=some true)
  (ztF:PySem.W.kitOne K (.ref zao) (.ref zao)=some true)
  (ztG:PySem.W.kitOne K (.type "int") (.type "bool")=some false)
  (ztH:PySem.W.specialIn K (.builtin "object.__class__") "__get__" = some (some (.builtin "getset_descriptor.__get__")))
  (ztI:PySem.W.takesIn K (.builtin "object.__class__")=some true)
  (ztJ:PySem.W.findIn K (.ref zai) "__class__" = some (some (.builtin "object.__class__")))
  (ztK:PySem.W.mroIn K zai (.type "object")=some true)
  (ztL:PySem.W.findIn K (.ref zaj) "__class__" = some (some (.builtin "object.__class__")))
  (ztM:PySem.W.mroIn K zaj (.type "object")=some true)
  (ztN:PySem.W.findIn K (.ref zak) "__class__" = some (some (.builtin "object.__class__")))
  (ztO:PySem.W.mroIn K zak (.type "object")=some true)
  (ztP:PySem.W.findIn K (.ref zal) "__class__" = some (some (.builtin "object.__class__")))
  (ztQ:PySem.W.mroIn K zal (.type "object")=some true)
  (ztR:PySem.W.findIn K (.ref zam) "__class__" = some (some (.builtin "object.__class__")))
  (ztS:PySem.W.mroIn K zam (.type "object")=some true)
  (ztT:PySem.W.findIn K (.ref zan) "__class__" = some (some (.builtin "object.__class__")))
  (ztU:PySem.W.mroIn K zan (.type "object")=some true)
  (ztV:PySem.W.findIn K (.ref zao) "__class__" = some (some (.builtin "object.__class__")))
  (ztW:PySem.W.mroIn K zao (.type "object")=some true)
  : ∃t:jt,Txt K mg t∧mg "law" = some (.ref t.de):=by
 have F_Row_rows_told:=qV (st:=jP) zlt zlu zlv
 have B_Row_rows_told:=F_Row_rows_told.binds (ps:=["self"]) fun _ _ _ _ _ _ us hl=>match us,hl with | [_],_=>rfl
 have F_Clause_init:=qV (st:=jN) zlx zly zlz
 have B_Clause_init:=F_Clause_init.binds (ps:=["self","label","who","act"]) fun _ _ _ _ _ _ us hl=>match us,hl with | [_,_,_,_],_=>rfl
 have F_Clause_rows_told:=qV (st:=qL) zlB zlC zlD
 have B_Clause_rows_told:=F_Clause_rows_told.binds (ps:=["self"]) fun _ _ _ _ _ _ us hl=>match us,hl with | [_],_=>rfl
 have F_Clause_tail:=qV (st:=xw) zlF zlG zlH
 have B_Clause_tail:=F_Clause_tail.binds (ps:=["self"]) fun _ _ _ _ _ _ us hl=>match us,hl with | [_],_=>rfl
 have F_Clause_number:=qV (st:=jB) zlJ zlK zlL
 have B_Clause_number:=F_Clause_number.binds (ps:=["self"]) fun _ _ _ _ _ _ us hl=>match us,hl with | [_],_=>rfl
 have F_Duty_init:=qV (st:=xZ) zlN zlO zlP
 have B_Duty_init:=F_Duty_init.binds (ps:=["self","label","who","act","turns","room"]) fun _ _ _ _ _ _ us hl=>match us,hl with | [_,_,_,_,_,_],_=>rfl
 have F_Duty_tail:=qV (st:=xQ) zlR zlS zlT
 have B_Duty_tail:=F_Duty_tail.binds (ps:=["self"]) fun _ _ _ _ _ _ us hl=>match us,hl with | [_],_=>rfl
 have F_Duty_number:=qV (st:=xy) zlV zlW zlX
 have B_Duty_number:=F_Duty_number.binds (ps:=["self"]) fun _ _ _ _ _ _ us hl=>match us,hl with | [_],_=>rfl
 have F_Leave_tail:=qV (st:=j9) zlZ zma zmb
 have B_Leave_tail:=F_Leave_tail.binds (ps:=["self"]) fun _ _ _ _ _ _ us hl=>match us,hl with | [_],_=>rfl
 have F_Ban_init:=qV (st:=kq) zmd zme zmf
 have B_Ban_init:=F_Ban_init.binds (ps:=["self","label","who","act","room"]) fun _ _ _ _ _ _ us hl=>match us,hl with | [_,_,_,_,_],_=>rfl
 have F_Ban_tail:=qV (st:=kj) zmh zmi zmj
 have B_Ban_tail:=F_Ban_tail.binds (ps:=["self"]) fun _ _ _ _ _ _ us hl=>match us,hl with | [_],_=>rfl
 have F_Power_init:=qV (st:=xq) zml zmm zmn
 have B_Power_init:=F_Power_init.binds (ps:=["self","label","who","act","room"]) fun _ _ _ _ _ _ us hl=>match us,hl with | [_,_,_,_,_],_=>rfl
 have F_Power_tail:=qV (st:=xj) zmp zmq zmr
 have B_Power_tail:=F_Power_tail.binds (ps:=["self"]) fun _ _ _ _ _ _ us hl=>match us,hl with | [_],_=>rfl
 have F_Let_init:=qV (st:=kx) zmt zmu zmv
 have B_Let_init:=F_Let_init.binds (ps:=["self","name","value"]) fun _ _ _ _ _ _ us hl=>match us,hl with | [_,_,_],_=>rfl
 have F_Let_rows_told:=qV (st:=jr) zmx zmy zmz
 have B_Let_rows_told:=F_Let_rows_told.binds (ps:=["self"]) fun _ _ _ _ _ _ us hl=>match us,hl with | [_],_=>rfl
 have F_Part_init:=qV (st:=xX) zmB zmC zmD
 have B_Part_init:=F_Part_init.binds (ps:=["self","name","rooms","rows"]) fun _ _ _ _ _ _ us hl=>match us,hl with | [_,_,_,_],_=>rfl
 have F_Part_rows_told:=qV (st:=jh) zmF zmG zmH
 have B_Part_rows_told:=F_Part_rows_told.binds (ps:=["self"]) fun _ _ _ _ _ _ us hl=>match us,hl with | [_],_=>rfl
 have F_Part_first_row:=qV (st:=jg) zmJ zmK zmL
 have B_Part_first_row:=F_Part_first_row.binds (ps:=["self"]) fun _ _ _ _ _ _ us hl=>match us,hl with | [_],_=>rfl
 have F_Pact_init:=qV (st:=xJ) zmN zmO zmP
 have B_Pact_init:=F_Pact_init.binds (ps:=["self","parties","acts","rooms","whole"]) fun _ _ _ _ _ _ us hl=>match us,hl with | [_,_,_,_,_],_=>rfl
 have F_v_shown:=qV (st:=vw) zmR zmS zmT
 have B_v_shown:=F_v_shown.binds (ps:=["pact"]) fun _ _ _ _ _ _ us hl=>match us,hl with | [_],_=>rfl
 have F_NoText_init:=qV (st:=jO) zmV zmW zmX
 have B_NoText_init:=F_NoText_init.binds (ps:=["self","row"]) fun _ _ _ _ _ _ us hl=>match us,hl with | [_,_],_=>rfl
 have F_v_is_name:=qV (st:=xK) zmZ zna znb
 have B_v_is_name:=F_v_is_name.binds (ps:=["word"]) fun _ _ _ _ _ _ us hl=>match us,hl with | [_],_=>rfl
 have F_v_number_of:=qV (st:=jE) znd zne znf
 have B_v_number_of:=F_v_number_of.binds (ps:=["word"]) fun _ _ _ _ _ _ us hl=>match us,hl with | [_],_=>rfl
 have F_v_written_with:=qV (st:=q9) znh zni znj
 have B_v_written_with:=F_v_written_with.binds (ps:=["word","signs","most"]) fun _ _ _ _ _ _ us hl=>match us,hl with | [_,_,_],_=>rfl
 have F_v_names_of:=qV (st:=xx) znl znm znn
 have B_v_names_of:=F_v_names_of.binds (ps:=["row","word","most"]) fun _ _ _ _ _ _ us hl=>match us,hl with | [_,_,_],_=>rfl
 have F_v_are_names:=qV (st:=je) znp znq znr
 have B_v_are_names:=F_v_are_names.binds (ps:=["words","most"]) fun _ _ _ _ _ _ us hl=>match us,hl with | [_,_],_=>rfl
 have F_v_room_of:=qV (st:=xW) znt znu znv
 have B_v_room_of:=F_v_room_of.binds (ps:=["row"]) fun _ _ _ _ _ _ us hl=>match us,hl with | [_],_=>rfl
 have F_v_let_of:=qV (st:=ky) znx zny znz
 have B_v_let_of:=F_v_let_of.binds (ps:=["row"]) fun _ _ _ _ _ _ us hl=>match us,hl with | [_],_=>rfl
 have F_v_part_of:=qV (st:=xV) znB znC znD
 have B_v_part_of:=F_v_part_of.binds (ps:=["row"]) fun _ _ _ _ _ _ us hl=>match us,hl with | [_],_=>rfl
 have F_v_clause_of:=qV (st:=jI) znF znG znH
 have B_v_clause_of:=F_v_clause_of.binds (ps:=["row"]) fun _ _ _ _ _ _ us hl=>match us,hl with | [_],_=>rfl
 have F_v_fits_form:=qV (st:=ja) znJ znK znL
 have B_v_fits_form:=F_v_fits_form.binds (ps:=["words","form"]) fun _ _ _ _ _ _ us hl=>match us,hl with | [_,_],_=>rfl
 have F_v_fits_place:=qV (st:=jJ) znN znO znP
 have B_v_fits_place:=F_v_fits_place.binds (ps:=["word","place"]) fun _ _ _ _ _ _ us hl=>match us,hl with | [_,_],_=>rfl
 have F_v_read:=qV (st:=we) znR znS znT
 have B_v_read:=F_v_read.binds (ps:=["text"]) fun _ _ _ _ _ _ us hl=>match us,hl with | [_],_=>rfl
 have F_v_read_names:=qV (st:=jX) znV znW znX
 have B_v_read_names:=F_v_read_names.binds (ps:=["rows","number","word","most","taken"]) fun _ _ _ _ _ _ us hl=>match us,hl with | [_,_,_,_,_],_=>rfl
 have F_v_told_once:=qV (st:=jA) znZ zoa zob
 have B_v_told_once:=F_v_told_once.binds (ps:=["names"]) fun _ _ _ _ _ _ us hl=>match us,hl with | [_],_=>rfl
 have F_v_read_rooms:=qV (st:=ju) zod zoe zof
 have B_v_read_rooms:=F_v_read_rooms.binds (ps:=["rows","taken"]) fun _ _ _ _ _ _ us hl=>match us,hl with | [_,_],_=>rfl
 have F_v_read_whole:=qV (st:=jK) zoh zoi zoj
 have B_v_read_whole:=F_v_read_whole.binds (ps:=["rows","start"]) fun _ _ _ _ _ _ us hl=>match us,hl with | [_,_],_=>rfl
 have F_Body_init:=qV (st:=xa) zol zom zon
 have B_Body_init:=F_Body_init.binds (ps:=["self"]) fun _ _ _ _ _ _ us hl=>match us,hl with | [_],_=>rfl
 have F_Body_many_open:=qV (st:=jy) zop zoq zor
 have B_Body_many_open:=F_Body_many_open.binds (ps:=["self"]) fun _ _ _ _ _ _ us hl=>match us,hl with | [_],_=>rfl
 have F_Body_takes:=qV (st:=j8) zot zou zov
 have B_Body_takes:=F_Body_takes.binds (ps:=["self","row"]) fun _ _ _ _ _ _ us hl=>match us,hl with | [_,_],_=>rfl
 have F_Body_takes_done:=qV (st:=jz) zox zoy zoz
 have B_Body_takes_done:=F_Body_takes_done.binds (ps:=["self"]) fun _ _ _ _ _ _ us hl=>match us,hl with | [_],_=>rfl
 have F_Body_takes_head:=qV (st:=jq) zoB zoC zoD
 have B_Body_takes_head:=F_Body_takes_head.binds (ps:=["self","head"]) fun _ _ _ _ _ _ us hl=>match us,hl with | [_,_],_=>rfl
 have F_Body_takes_clause:=qV (st:=qT) zoF zoG zoH
 have B_Body_takes_clause:=F_Body_takes_clause.binds (ps:=["self","clause"]) fun _ _ _ _ _ _ us hl=>match us,hl with | [_,_],_=>rfl
 have F_Body_put_in:=qV (st:=jT) zoJ zoK zoL
 have B_Body_put_in:=F_Body_put_in.binds (ps:=["self","row"]) fun _ _ _ _ _ _ us hl=>match us,hl with | [_,_],_=>rfl
 have F_Body_closed:=qV (st:=jS) zoN zoO zoP
 have B_Body_closed:=F_Body_closed.binds (ps:=["self"]) fun _ _ _ _ _ _ us hl=>match us,hl with | [_],_=>rfl
 have F_w_cell_at:=qV (st:=xY) zoR zoS zoT
 have B_w_cell_at:=F_w_cell_at.binds (ps:=["_law_script","_law_k"]) fun _ _ _ _ _ _ us hl=>match us,hl with | [_,_],_=>rfl
 have F_w_mix:=qV (st:=yM) zoV zoW zoX
 have B_w_mix:=F_w_mix.binds (ps:=["_law_cell","_law_k"]) fun _ _ _ _ _ _ us hl=>match us,hl with | [_,_],_=>rfl
 have F_w_name:=qV (st:=wZ) zoZ zpa zpb
 have B_w_name:=F_w_name.binds (ps:=["_law_cell","_law_k"]) fun _ _ _ _ _ _ us hl=>match us,hl with | [_,_],_=>rfl
 have F_w_event:=qV (st:=xI) zpd zpe zpf
 have B_w_event:=F_w_event.binds (ps:=["_law_names","_law_cell","_law_label","_law_depth"]) fun _ _ _ _ _ _ us hl=>match us,hl with | [_,_,_,_],_=>rfl
 have F_w_events:=qV (st:=kh) zph zpi zpj
 have B_w_events:=F_w_events.binds (ps:=["_law_names","_law_script"]) fun _ _ _ _ _ _ us hl=>match us,hl with | [_,_],_=>rfl
 have F_w_header:=qV (st:=kf) zpl zpm zpn
 have B_w_header:=F_w_header.binds (ps:=["_law_names","_law_cell"]) fun _ _ _ _ _ _ us hl=>match us,hl with | [_,_],_=>rfl
 have F_w_row:=qV (st:=yD) zpp zpq zpr
 have B_w_row:=F_w_row.binds (ps:=["_law_event_here"]) fun _ _ _ _ _ _ us hl=>match us,hl with | [_],_=>rfl
 have F_w_rows:=qV (st:=vi) zpt zpu zpv
 have B_w_rows:=F_w_rows.binds (ps:=["_law_header_here","_law_events_here"]) fun _ _ _ _ _ _ us hl=>match us,hl with | [_,_],_=>rfl
 have F_w_clause:=qV (st:=kg) zpx zpy zpz
 have B_w_clause:=F_w_clause.binds (ps:=["_law_row_here"]) fun _ _ _ _ _ _ us hl=>match us,hl with | [_],_=>rfl
 have F_w_found:=qV (st:=vy) zpB zpC zpD
 have B_w_found:=F_w_found.binds (ps:=["_law_rows_here"]) fun _ _ _ _ _ _ us hl=>match us,hl with | [_],_=>rfl
 have F_w_object:=qV (st:=km) zpF zpG zpH
 have B_w_object:=F_w_object.binds (ps:=["_law_event_here"]) fun _ _ _ _ _ _ us hl=>match us,hl with | [_],_=>rfl
 have F_w_whole_part:=qV (st:=jV) zpJ zpK zpL
 have B_w_whole_part:=F_w_whole_part.binds (ps:=["_law_events_here"]) fun _ _ _ _ _ _ us hl=>match us,hl with | [_],_=>rfl
 have F_w_made:=qV (st:=wa) zpN zpO zpP
 have B_w_made:=F_w_made.binds (ps:=["_law_header_here","_law_events_here"]) fun _ _ _ _ _ _ us hl=>match us,hl with | [_,_],_=>rfl
 have F_v_law:=qV (st:=yq) zpR zpS zpT
 have B_v_law:=F_v_law.binds (ps:=["_law_script"]) fun _ _ _ _ _ _ us hl=>match us,hl with | [_],_=>rfl
 refine⟨{ pj:=za,pz:=PySem.W.fnOf "rows_told" "Row.rows_told" (qz jP) (z9 jP) (z4 jP) .none zaz zaA zaB zaw zaC zaD,qE:=zb,xk:=PySem.W.fnOf "__init__" "Clause.__init__" (qz jN) (z9 jN) (z4 jN) .none zaI zaJ zaK zaF zaL zaM,jl:=zc,vX:=PySem.W.fnOf "rows_told" "Clause.rows_told" (qz qL) (z9 qL) (z4 qL) .none zaR zaS zaT zaO zaU zaV,mr:=zd,mm:=PySem.W.fnOf "tail" "Clause.tail" (qz xw) (z9 xw) (z4 xw) .none zba zbb zbc zaX zbd zbe,pq:=ze,b9:=PySem.W.fnOf "number" "Clause.number" (qz jB) (z9 jB) (z4 jB) .none zbj zbk zbl zbg zbm zbn,kC:=zf,yh:=PySem.W.fnOf "__init__" "Duty.__init__" (qz xZ) (z9 xZ) (z4 xZ) .none zbs zbt zbu zbp zbv zbw,gJ:=zg,pD:=PySem.W.fnOf "tail" "Duty.tail" (qz xQ) (z9 xQ) (z4 xQ) .none zbB zbC zbD zby zbE zbF,ml:=zh,md:=PySem.W.fnOf "number" "Duty.number" (qz xy) (z9 xy) (z4 xy) .none zbK zbL zbM zbH zbN zbO,yH:=zi,bo:=PySem.W.fnOf "tail" "Leave.tail" (qz j9) (z9 j9) (z4 j9) .none zbT zbU zbV zbQ zbW zbX,vK:=zj,y0:=PySem.W.fnOf "__init__" "Ban.__init__" (qz kq) (z9 kq) (z4 kq) .none zcc zcd zce zbZ zcf zcg,bW:=zk,mN:=PySem.W.fnOf "tail" "Ban.tail" (qz kj) (z9 kj) (z4 kj) .none zcl zcm zcn zci zco zcp,x9:=zl,vL:=PySem.W.fnOf "__init__" "Power.__init__" (qz xq) (z9 xq) (z4 xq) .none zcu zcv zcw zcr zcx zcy,yB:=zm,ba:=PySem.W.fnOf "tail" "Power.tail" (qz xj) (z9 xj) (z4 xj) .none zcD zcE zcF zcA zcG zcH,wB:=zn,y1:=PySem.W.fnOf "__init__" "Let.__init__" (qz kx) (z9 kx) (z4 kx) .none zcM zcN zcO zcJ zcP zcQ,ve:=zo,ya:=PySem.W.fnOf "rows_told" "Let.rows_told" (qz jr) (z9 jr) (z4 jr) .none zcV zcW zcX zcS zcY zcZ,xA:=zp,kD:=PySem.W.fnOf "__init__" "Part.__init__" (qz xX) (z9 xX) (z4 xX) .none zde zdf zdg zdb zdh zdi,xU:=zq,vz:=PySem.W.fnOf "rows_told" "Part.rows_told" (qz jh) (z9 jh) (z4 jh) .none zdn zdo zdp zdk zdq zdr,vj:=zr,wH:=PySem.W.fnOf "first_row" "Part.first_row" (qz jg) (z9 jg) (z4 jg) .none zdw zdx zdy zdt zdz zdA,vB:=zs,yb:=PySem.W.fnOf "__init__" "Pact.__init__" (qz xJ) (z9 xJ) (z4 xJ) .none zdF zdG zdH zdC zdI zdJ,fS:=zt,fR:=PySem.W.fnOf "shown" "shown" (qz vw) (z9 vw) (z4 vw) .none zdO zdP zdQ zdL zdR zdS,xF:=zu,ku:=PySem.W.fnOf "__init__" "NoText.__init__" (qz jO) (z9 jO) (z4 jO) .none zdX zdY zdZ zdU zea zeb,vP:=zv,vH:=PySem.W.fnOf "is_name" "is_name" (qz xK) (z9 xK) (z4 xK) .none zeg zeh zei zed zej zek,vc:=zw,vf:=PySem.W.fnOf "number_of" "number_of" (qz jE) (z9 jE) (z4 jE) .none zep zeq zer zem zes zet,xR:=zx,xC:=PySem.W.fnOf "written_with" "written_with" (qz q9) (z9 q9) (z4 q9) .none zey zez zeA zev zeB zeC,yP:=zy,yY:=PySem.W.fnOf "names_of" "names_of" (qz xx) (z9 xx) (z4 xx) .none zeH zeI zeJ zeE zeK zeL,vd:=zz,vp:=PySem.W.fnOf "are_names" "are_names" (qz je) (z9 je) (z4 je) .none zeQ zeR zeS zeN zeT zeU,gK:=zA,gQ:=PySem.W.fnOf "room_of" "room_of" (qz xW) (z9 xW) (z4 xW) .none zeZ zfa zfb zeW zfc zfd,bY:=zB,bZ:=PySem.W.fnOf "let_of" "let_of" (qz ky) (z9 ky) (z4 ky) .none zfi zfj zfk zff zfl zfm,gX:=zC,gZ:=PySem.W.fnOf "part_of" "part_of" (qz xV) (z9 xV) (z4 xV) .none zfr zfs zft zfo zfu zfv,wI:=zD,wL:=PySem.W.fnOf "clause_of" "clause_of" (qz jI) (z9 jI) (z4 jI) .none zfA zfB zfC zfx zfD zfE,kn:=zE,kr:=PySem.W.fnOf "fits_form" "fits_form" (qz ja) (z9 ja) (z4 ja) .none zfJ zfK zfL zfG zfM zfN,vE:=zF,vS:=PySem.W.fnOf "fits_place" "fits_place" (qz jJ) (z9 jJ) (z4 jJ) .none zfS zfT zfU zfP zfV zfW,pR:=zG,pC:=PySem.W.fnOf "read" "read" (qz we) (z9 we) (z4 we) .none zgb zgc zgd zfY zge zgf,vA:=zH,vT:=PySem.W.fnOf "read_names" "read_names" (qz jX) (z9 jX) (z4 jX) .none zgk zgl zgm zgh zgn zgo,vt:=zI,vm:=PySem.W.fnOf "told_once" "told_once" (qz jA) (z9 jA) (z4 jA) .none zgt zgu zgv zgq zgw zgx,v7:=zJ,vN:=PySem.W.fnOf "read_rooms" "read_rooms" (qz ju) (z9 ju) (z4 ju) .none zgC zgD zgE zgz zgF zgG,v8:=zK,vO:=PySem.W.fnOf "read_whole" "read_whole" (qz jK) (z9 jK) (z4 jK) .none zgL zgM zgN zgI zgO zgP,yf:=zL,gi:=PySem.W.fnOf "__init__" "Body.__init__" (qz xa) (z9 xa) (z4 xa) .none zgU zgV zgW zgR zgX zgY,vq:=zM,wG:=PySem.W.fnOf "many_open" "Body.many_open" (qz jy) (z9 jy) (z4 jy) .none zhd zhe zhf zha zhg zhh,yG:=zN,bt:=PySem.W.fnOf "takes" "Body.takes" (qz j8) (z9 j8) (z4 j8) .none zhm zhn zho zhj zhp zhq,kX:=zO,vU:=PySem.W.fnOf "takes_done" "Body.takes_done" (qz jz) (z9 jz) (z4 jz) .none zhv zhw zhx zhs zhy zhz,kK:=zP,vR:=PySem.W.fnOf "takes_head" "Body.takes_head" (qz jq) (z9 jq) (z4 jq) .none zhE zhF zhG zhB zhH zhI,xM:=zQ,vh:=PySem.W.fnOf "takes_clause" "Body.takes_clause" (qz qT) (z9 qT) (z4 qT) .none zhN zhO zhP zhK zhQ zhR,wO:=zR,gS:=PySem.W.fnOf "put_in" "Body.put_in" (qz jT) (z9 jT) (z4 jT) .none zhW zhX zhY zhT zhZ zia,wN:=zS,gL:=PySem.W.fnOf "closed" "Body.closed" (qz jS) (z9 jS) (z4 jS) .none zif zig zih zic zii zij,ym:=zT,yp:=PySem.W.fnOf "_law_cell_at" "_law_cell_at" (qz xY) (z9 xY) (z4 xY) .none zio ziq zir zil zis zit,bP:=zU,bK:=PySem.W.fnOf "_law_mix" "_law_mix" (qz yM) (z9 yM) (z4 yM) .none ziy ziz ziA ziv ziB ziC,dZ:=zV,du:=PySem.W.fnOf "_law_name" "_law_name" (qz wZ) (z9 wZ) (z4 wZ) .none ziH ziI ziJ ziE ziK ziL,fT:=zW,fL:=PySem.W.fnOf "_law_event" "_law_event" (qz xI) (z9 xI) (z4 xI) .none ziQ ziR ziS ziN ziT ziU,bH:=zX,bJ:=PySem.W.fnOf "_law_events" "_law_events" (qz kh) (z9 kh) (z4 kh) .none ziZ zja zjb ziW zjc zjd,bB:=zY,bX:=PySem.W.fnOf "_law_header" "_law_header" (qz kf) (z9 kf) (z4 kf) .none zji zjj zjk zjf zjl zjm,uN:=zZ,uT:=PySem.W.fnOf "_law_row" "_law_row" (qz yD) (z9 yD) (z4 yD) .none zjr zjs zjt zjo zju zjv,dQ:=zaa,dt:=PySem.W.fnOf "_law_rows" "_law_rows" (qz vi) (z9 vi) (z4 vi) .none zjA zjB zjC zjx zjD zjE,bG:=zab,bQ:=PySem.W.fnOf "_law_clause" "_law_clause" (qz kg) (z9 kg) (z4 kg) .none zjJ zjK zjL zjG zjM zjN,yR:=zac,yU:=PySem.W.fnOf "_law_found" "_law_found" (qz vy) (z9 vy) (z4 vy) .none zjS zjT zjU zjP zjV zjW,bF:=zad,bV:=PySem.W.fnOf "_law_object" "_law_object" (qz km) (z9 km) (z4 km) .none zkb zkc zkd zjY zke zkf,wz:=zae,vI:=PySem.W.fnOf "_law_whole_part" "_law_whole_part" (qz jV) (z9 jV) (z4 jV) .none zkk zkl zkm zkh zkn zko,da:=zaf,dc:=PySem.W.fnOf "_law_made" "_law_made" (qz wa) (z9 wa) (z4 wa) .none zkt zku zkv zkq zkw zkx,de:=zag,uS:=PySem.W.fnOf "law" "law" (qz yq) (z9 yq) (z4 yq) .none zkC zkD zkE zkz zkF zkG,Wz:=zah,xt:=zai,xp:=zaj,jo:=zak,kM:=zal,jQ:=zam,kZ:=zan,qH:=zao,jF:=zap,uv:=zaq,yg:=zar,qA:=zas,rL:=zat,dY:=zau },?_,PySem.W.mg_of X G zpQ⟩
 exact {
  sW:=⟨F_Row_rows_told,B_Row_rows_told⟩,
  kP:=⟨F_Clause_init,B_Clause_init⟩,
  xh:=⟨F_Clause_rows_told,B_Clause_rows_told⟩,
  ip:=⟨F_Clause_tail,B_Clause_tail⟩,
  sV:=⟨F_Clause_number,B_Clause_number⟩,
  fM:=⟨F_Duty_init,B_Duty_init⟩,
  cD:=⟨F_Duty_tail,B_Duty_tail⟩,
  iu:=⟨F_Duty_number,B_Duty_number⟩,
  mR:=⟨F_Leave_tail,B_Leave_tail⟩,
  dw:=⟨F_Ban_init,B_Ban_init⟩,
  rQ:=⟨F_Ban_tail,B_Ban_tail⟩,
  br:=⟨F_Power_init,B_Power_init⟩,
  mL:=⟨F_Power_tail,B_Power_tail⟩,
  dy:=⟨F_Let_init,B_Let_init⟩,
  gC:=⟨F_Let_rows_told,B_Let_rows_told⟩,
  vW:=⟨F_Part_init,B_Part_init⟩,
  kF:=⟨F_Part_rows_told,B_Part_rows_told⟩,
  yN:=⟨F_Part_first_row,B_Part_first_row⟩,
  fD:=⟨F_Pact_init,B_Pact_init⟩,
  jY:=⟨F_v_shown,B_v_shown,PySem.W.mg_of X G zmQ⟩,
  xE:=⟨F_NoText_init,B_NoText_init⟩,
  j4:=⟨F_v_is_name,B_v_is_name,PySem.W.mg_of X G zmY⟩,
  x5:=⟨F_v_number_of,B_v_number_of,PySem.W.mg_of X G znc⟩,
  j0:=⟨F_v_written_with,B_v_written_with,PySem.W.mg_of X G zng⟩,
  gm:=⟨F_v_names_of,B_v_names_of,PySem.W.mg_of X G znk⟩,
  x4:=⟨F_v_are_names,B_v_are_names,PySem.W.mg_of X G zno⟩,
  bc:=⟨F_v_room_of,B_v_room_of,PySem.W.mg_of X G zns⟩,
  fY:=⟨F_v_let_of,B_v_let_of,PySem.W.mg_of X G znw⟩,
  bf:=⟨F_v_part_of,B_v_part_of,PySem.W.mg_of X G znA⟩,
  yl:=⟨F_v_clause_of,B_v_clause_of,PySem.W.mg_of X G znE⟩,
  qU:=⟨F_v_fits_form,B_v_fits_form,PySem.W.mg_of X G znI⟩,
  wQ:=⟨F_v_fits_place,B_v_fits_place,PySem.W.mg_of X G znM⟩,
  gd:=⟨F_v_read,B_v_read,PySem.W.mg_of X G znQ⟩,
  xH:=⟨F_v_read_names,B_v_read_names,PySem.W.mg_of X G znU⟩,
  x6:=⟨F_v_told_once,B_v_told_once,PySem.W.mg_of X G znY⟩,
  wJ:=⟨F_v_read_rooms,B_v_read_rooms,PySem.W.mg_of X G zoc⟩,
  wX:=⟨F_v_read_whole,B_v_read_whole,PySem.W.mg_of X G zog⟩,
  cM:=⟨F_Body_init,B_Body_init⟩,
  kB:=⟨F_Body_many_open,B_Body_many_open⟩,
  mU:=⟨F_Body_takes,B_Body_takes⟩,
  yn:=⟨F_Body_takes_done,B_Body_takes_done⟩,
  yo:=⟨F_Body_takes_head,B_Body_takes_head⟩,
  vD:=⟨F_Body_takes_clause,B_Body_takes_clause⟩,
  yk:=⟨F_Body_put_in,B_Body_put_in⟩,
  gr:=⟨F_Body_closed,B_Body_closed⟩,
  j5:=⟨F_w_cell_at,B_w_cell_at,PySem.W.mg_of X G zoQ⟩,
  xg:=⟨F_w_mix,B_w_mix,PySem.W.mg_of X G zoU⟩,
  so:=⟨F_w_name,B_w_name,PySem.W.mg_of X G zoY⟩,
  cP:=⟨F_w_event,B_w_event,PySem.W.mg_of X G zpc⟩,
  yt:=⟨F_w_events,B_w_events,PySem.W.mg_of X G zpg⟩,
  fH:=⟨F_w_header,B_w_header,PySem.W.mg_of X G zpk⟩,
  ag:=⟨F_w_row,B_w_row,PySem.W.mg_of X G zpo⟩,
  fP:=⟨F_w_rows,B_w_rows,PySem.W.mg_of X G zps⟩,
  fG:=⟨F_w_clause,B_w_clause,PySem.W.mg_of X G zpw⟩,
  yC:=⟨F_w_found,B_w_found,PySem.W.mg_of X G zpA⟩,
  fB:=⟨F_w_object,B_w_object,PySem.W.mg_of X G zpE⟩,
  wK:=⟨F_w_whole_part,B_w_whole_part,PySem.W.mg_of X G zpI⟩,
  sr:=⟨F_w_made,B_w_made,PySem.W.mg_of X G zpM⟩,
  KY:=⟨F_v_law,B_v_law,PySem.W.mg_of X G zpQ⟩,
  yI:=PySem.W.mg_none_of X G zpU,
  vY:=PySem.W.mg_none_of X G zpV,
  gs:=PySem.W.mg_none_of X G zpW,
  ZG:=PySem.W.mg_none_of X G zpX,
  rK:=PySem.W.mg_none_of X G zpY,
  ZH:=PySem.W.mg_none_of X G zpZ,
  jZ:=PySem.W.mg_none_of X G zqa,
  JL:=PySem.W.mg_none_of X G zqb,
  JS:=PySem.W.mg_none_of X G zqc,
  nD:=PySem.W.mg_none_of X G zqd,
  V9:=PySem.W.mg_none_of X G zqe,
  Xw:=PySem.W.mg_of X G zlg,
  tW:=⟨_,PySem.W.mg_of X G zlh⟩,
  tV:=⟨_,PySem.W.mg_of X G zli⟩,
  pN:=⟨_,PySem.W.mg_of X G zlj⟩,
  pT:=⟨_,PySem.W.mg_of X G zlk⟩,
  ZI:=PySem.W.mg_of X G zll,
  bM:=⟨_,PySem.W.mg_of X G zlm⟩,
  pO:=⟨_,PySem.W.mg_of X G zln⟩,
  uw:=⟨_,PySem.W.mg_of X G zlo⟩,
  ug:=⟨_,PySem.W.mg_of X G zlp⟩,
  uy:=⟨_,PySem.W.mg_of X G zlq⟩,
  wq:=⟨_,PySem.W.mg_of X G zlr⟩,
  Gu:=PySem.W.mg_of X G zkU,
  lx:=PySem.W.mg_of X G zkV,
  oj:=PySem.W.mg_of X G zkW,
  dS:=PySem.W.mg_of X G zkX,
  Z6:=PySem.W.mg_of X G zkY,
  u9:=PySem.W.mg_of X G zkZ,
  Z7:=PySem.W.mg_of X G zla,
  p9:=PySem.W.mg_of X G zlb,
  aR:=PySem.W.mg_of X G zlc,
  iA:=PySem.W.mg_of X G zld,
  y7:=PySem.W.mg_of X G zle,
  Xt:=PySem.W.mg_of X G zlf,
  XY:=(by obtain⟨its,n,h1,h2,h3,h4⟩:=zqg;exact⟨zkR,its,n,zqf,h1,h2,h3,h4⟩),
  Qq:=(by obtain⟨its,n,h1,h2,h3,h4⟩:=zqi;exact⟨zkS,its,n,zqh,h1,h2,h3,h4⟩),
  tJ:=⟨zqj,zqk,zql,zqm⟩,
  mY:=zqn,
  pd:=zqo,
  fz:=zqp,
  pe:=zqq,
  mG:=zqr,
  tL:=⟨zqs,zqt,zqu,zqv⟩,
  ZF:=⟨zqw,zqx,zqy,zqz⟩,
  ui:=zqA,
  mH:=zqB,
  d6:=zqC,
  mB:=zqD,
  ue:=zqE,
  rq:=⟨zqF,zqG,zqH,zqI⟩,
  dE:=⟨zqJ,zqK,zlT⟩,
  gY:=⟨zqL,zqM,zlD⟩,
  iJ:=⟨zqN,zqO,zqP,zqQ⟩,
  d7:=zqR,
  fq:=zqS,
  mP:=zqT,
  fj:=zqU,
  d8:=zqV,
  mV:=⟨zqW,zqX,zmb⟩,
  dO:=⟨zqY,zqZ,zra,zrb⟩,
  gq:=⟨zrc,zrd,zlD⟩,
  JI:=⟨zre,zrf,zrg,zrh⟩,
  lg:=zri,
  dA:=zrj,
  uo:=zrk,
  d0:=zrl,
  lZ:=zrm,
  ow:=⟨zrn,zro,zrp,zrq⟩,
  ur:=⟨zrr,zrs,zmj⟩,
  hU:=⟨zrt,zru,zlD⟩,
  iX:=⟨zrv,zrw,zrx,zry⟩,
  d9:=zrz,
  fg:=zrA,
  mM:=zrB,
  fh:=zrC,
  cz:=zrD,
  dI:=⟨zrE,zrF,zrG,zrH⟩,
  mW:=⟨zrI,zrJ,zmr⟩,
  gj:=⟨zrK,zrL,zlD⟩,
  mT:=⟨zrM,zrN,zrO,zrP⟩,
  fk:=zrQ,
  bC:=zrR,
  aO:=⟨zrS,zrT,zrU,zrV⟩,
  bz:=⟨zrW,zrX,zmz⟩,
  kJ:=⟨zrY,zrZ,zsa,zsb⟩,
  wg:=zsc,
  yz:=zsd,
  bR:=zse,
  bD:=⟨zsf,zsg,zsh,zsi⟩,
  wy:=⟨zsj,zsk,zmH⟩,
  gG:=⟨zsl,zsm,zmL⟩,
  yW:=⟨zsn,zso,zsp,zsq⟩,
  bU:=zsr,
  yQ:=zss,
  gT:=zst,
  gN:=zsu,
  oy:=⟨zsv,zsw,zsx,zsy⟩,
  jM:=⟨zsz,zsA,zsB,zsC⟩,
  kR:=zsD,
  wA:=zsE,
  gk:=zsF,
  Z8:=⟨zsG,zsH,zsI,zsJ⟩,
  kY:=⟨zsK,zsL,zor⟩,
  mK:=⟨zsM,zsN,zov⟩,
  y9:=⟨zsO,zsP,zoz⟩,
  gz:=⟨zsQ,zsR,zoD⟩,
  yc:=⟨zsS,zsT,zoH⟩,
  wx:=⟨zsU,zsV,zoL⟩,
  y8:=⟨zsW,zsX,zoP⟩,
  nY:=⟨V4 zsY zsZ,zta⟩,
  vM:=⟨YL zsY zsZ,ztb,ztc,ztd⟩,
  mF:=zte,
  cR:=⟨ztf,ztg,zth,zlz⟩,
  iV:=⟨zti,ztj,ztk,zlz⟩,
  dG:=ztl,
  mZ:=ztm,
  p3:=ztn,
  dB:=zto,
  p5:=ztp,
  uh:=ztq,
  rS:=ztr,
  mJ:=zts,
  dM:=ztt,
  p7:=ztu,
  dH:=ztv,
  uf:=ztw,
  mQ:=ztx,
  dP:=zty,
  ub:=ztz,
  rT:=ztA,
  mX:=ztB,
  dD:=ztC,
  um:=ztD,
  rN:=ztE,
  dF:=ztF,
  ud:=ztG,
  om:=ztH,
  Qj:=ztI,
  nX:=⟨ztJ,ztK⟩,
  Qi:=⟨ztL,ztM⟩,
  av:=⟨ztN,ztO⟩,
  KZ:=⟨ztP,ztQ⟩,
  ay:=⟨ztR,ztS⟩,
  Zo:=⟨ztT,ztU⟩,
  ik:=⟨ztV,ztW⟩ }
end My
theorem PySem.W.Fast.tw10014300020684132289:True:=trivial
theorem PySem.W.Fast.tw10059975992780616763:True:=trivial
theorem PySem.W.Fast.tw10072147783314319671:True:=trivial
theorem PySem.W.Fast.tw10175603089481116508:True:=trivial
theorem PySem.W.Fast.tw10422732179510728158:True:=trivial
theorem PySem.W.Fast.tw10442233458295964450:True:=trivial
theorem PySem.W.Fast.tw10641566238151324234:True:=trivial
theorem PySem.W.Fast.tw1108705930936236358:True:=trivial
theorem PySem.W.Fast.tw11202198562547597962:True:=trivial
theorem PySem.W.Fast.tw11343790963078542788:True:=trivial
theorem PySem.W.Fast.tw11361146865694248238:True:=trivial
theorem PySem.W.Fast.tw1138185075473260406:True:=trivial
theorem PySem.W.Fast.tw11398157768108414954:True:=trivial
theorem PySem.W.Fast.tw1156707966828434993:True:=trivial
theorem PySem.W.Fast.tw11743686663365640131:True:=trivial
theorem PySem.W.Fast.tw12003893017222913798:True:=trivial
theorem PySem.W.Fast.tw12102195450969359642:True:=trivial
theorem PySem.W.Fast.tw1210342661081637219:True:=trivial
theorem PySem.W.Fast.tw12174719777651712210:True:=trivial
theorem PySem.W.Fast.tw1217830713365472015:True:=trivial
theorem PySem.W.Fast.tw12189487908227234230:True:=trivial
theorem PySem.W.Fast.tw12241775908770997778:True:=trivial
theorem PySem.W.Fast.tw12245188476127257715:True:=trivial
theorem PySem.W.Fast.tw12542607059994882318:True:=trivial
theorem PySem.W.Fast.tw12554430699603516558:True:=trivial
theorem PySem.W.Fast.tw12789182690557483727:True:=trivial
theorem PySem.W.Fast.tw12826642577966625782:True:=trivial
theorem PySem.W.Fast.tw1293530520962589996:True:=trivial
theorem PySem.W.Fast.tw13241522067648101085:True:=trivial
theorem PySem.W.Fast.tw13266128419130495720:True:=trivial
theorem PySem.W.Fast.tw13268361417912482168:True:=trivial
theorem PySem.W.Fast.tw13360694605341333563:True:=trivial
theorem PySem.W.Fast.tw1348765888583366632:True:=trivial
theorem PySem.W.Fast.tw13503753808616403649:True:=trivial
theorem PySem.W.Fast.tw1355824006189444590:True:=trivial
theorem PySem.W.Fast.tw13590924745721684496:True:=trivial
theorem PySem.W.Fast.tw13713682455474488432:True:=trivial
theorem PySem.W.Fast.tw13831144148155216816:True:=trivial
theorem PySem.W.Fast.tw138930258760609604:True:=trivial
theorem PySem.W.Fast.tw1412364827176463805:True:=trivial
theorem PySem.W.Fast.tw14235189377655619880:True:=trivial
theorem PySem.W.Fast.tw14248153183776199565:True:=trivial
theorem PySem.W.Fast.tw14306765183492085734:True:=trivial
theorem PySem.W.Fast.tw14338548741724816395:True:=trivial
theorem PySem.W.Fast.tw14696730328592833898:True:=trivial
theorem PySem.W.Fast.tw14823390477625409370:True:=trivial
theorem PySem.W.Fast.tw14883472284083904497:True:=trivial
theorem PySem.W.Fast.tw15096422907673464857:True:=trivial
theorem PySem.W.Fast.tw15225571801476128489:True:=trivial
theorem PySem.W.Fast.tw1532281943412618187:True:=trivial
theorem PySem.W.Fast.tw15380327181837340729:True:=trivial
theorem PySem.W.Fast.tw15463690640034627954:True:=trivial
theorem PySem.W.Fast.tw15581708824746255578:True:=trivial
theorem PySem.W.Fast.tw1560756450561512012:True:=trivial
theorem PySem.W.Fast.tw15609407460410086691:True:=trivial
theorem PySem.W.Fast.tw15875506077658390131:True:=trivial
theorem PySem.W.Fast.tw16032319589834314849:True:=trivial
theorem PySem.W.Fast.tw16043563960061412653:True:=trivial
theorem PySem.W.Fast.tw16288585349785531604:True:=trivial
theorem PySem.W.Fast.tw16298786906653392600:True:=trivial
theorem PySem.W.Fast.tw16728187975436162211:True:=trivial
theorem PySem.W.Fast.tw16879077630402514405:True:=trivial
theorem PySem.W.Fast.tw17160882775078317593:True:=trivial
theorem PySem.W.Fast.tw17332970273666317093:True:=trivial
theorem PySem.W.Fast.tw17446951831967664167:True:=trivial
theorem PySem.W.Fast.tw17519874274472704356:True:=trivial
theorem PySem.W.Fast.tw17558790531378450892:True:=trivial
theorem PySem.W.Fast.tw17729469086976976429:True:=trivial
theorem PySem.W.Fast.tw17849446696910276558:True:=trivial
theorem PySem.W.Fast.tw17973501933380372243:True:=trivial
theorem PySem.W.Fast.tw18082237841284844907:True:=trivial
theorem PySem.W.Fast.tw18248059099234084162:True:=trivial
theorem PySem.W.Fast.tw18397824390643138337:True:=trivial
theorem PySem.W.Fast.tw18432002462684863845:True:=trivial
theorem PySem.W.Fast.tw2114912316829667006:True:=trivial
theorem PySem.W.Fast.tw229140091841247208:True:=trivial
theorem PySem.W.Fast.tw2572410994892036354:True:=trivial
theorem PySem.W.Fast.tw2600803224893446330:True:=trivial
theorem PySem.W.Fast.tw2682838809073839465:True:=trivial
theorem PySem.W.Fast.tw3017385679379650522:True:=trivial
theorem PySem.W.Fast.tw3072957601406093728:True:=trivial
theorem PySem.W.Fast.tw311503351964377569:True:=trivial
theorem PySem.W.Fast.tw3228776505034861943:True:=trivial
theorem PySem.W.Fast.tw3415332349707006769:True:=trivial
theorem PySem.W.Fast.tw3483065269783891970:True:=trivial
theorem PySem.W.Fast.tw3534405955429275496:True:=trivial
theorem PySem.W.Fast.tw361253099638506379:True:=trivial
theorem PySem.W.Fast.tw3916602420744877402:True:=trivial
theorem PySem.W.Fast.tw3995721860452749968:True:=trivial
theorem PySem.W.Fast.tw4033241971121851253:True:=trivial
theorem PySem.W.Fast.tw42471917918154091:True:=trivial
theorem PySem.W.Fast.tw4409268169356630581:True:=trivial
theorem PySem.W.Fast.tw4528998441991860143:True:=trivial
theorem PySem.W.Fast.tw4629442014090289460:True:=trivial
theorem PySem.W.Fast.tw4788618565646858598:True:=trivial
theorem PySem.W.Fast.tw4923549889798789031:True:=trivial
theorem PySem.W.Fast.tw503499400238470332:True:=trivial
theorem PySem.W.Fast.tw5040296763786229451:True:=trivial
theorem PySem.W.Fast.tw5219869044306418931:True:=trivial
theorem PySem.W.Fast.tw5232155529239274421:True:=trivial
theorem PySem.W.Fast.tw5355709132582680676:True:=trivial
theorem PySem.W.Fast.tw5598844911512326877:True:=trivial
theorem PySem.W.Fast.tw5742986402470740720:True:=trivial
theorem PySem.W.Fast.tw5923451287608780648:True:=trivial
theorem PySem.W.Fast.tw6023831405255263845:True:=trivial
theorem PySem.W.Fast.tw6042009379659161001:True:=trivial
theorem PySem.W.Fast.tw6072222554676350364:True:=trivial
theorem PySem.W.Fast.tw6072267982572192132:True:=trivial
theorem PySem.W.Fast.tw6279217821444222303:True:=trivial
theorem PySem.W.Fast.tw6296277164757739262:True:=trivial
theorem PySem.W.Fast.tw6362119940691794375:True:=trivial
theorem PySem.W.Fast.tw6372460963249741257:True:=trivial
theorem PySem.W.Fast.tw64906916695775777:True:=trivial
theorem PySem.W.Fast.tw6671042159871796093:True:=trivial
theorem PySem.W.Fast.tw6725126048808670876:True:=trivial
theorem PySem.W.Fast.tw6922502522890858671:True:=trivial
theorem PySem.W.Fast.tw6998243496873637801:True:=trivial
theorem PySem.W.Fast.tw7172255085344745452:True:=trivial
theorem PySem.W.Fast.tw7227567033793830021:True:=trivial
theorem PySem.W.Fast.tw7403321368202033605:True:=trivial
theorem PySem.W.Fast.tw7516672974739022602:True:=trivial
theorem PySem.W.Fast.tw7535127791031170393:True:=trivial
theorem PySem.W.Fast.tw7730467924507610288:True:=trivial
theorem PySem.W.Fast.tw7731768397347416931:True:=trivial
theorem PySem.W.Fast.tw7874479859999148253:True:=trivial
theorem PySem.W.Fast.tw8010633252222279309:True:=trivial
theorem PySem.W.Fast.tw8101201557238998370:True:=trivial
theorem PySem.W.Fast.tw8151774789092926894:True:=trivial
theorem PySem.W.Fast.tw8344285871169724814:True:=trivial
theorem PySem.W.Fast.tw8395289936087475707:True:=trivial
theorem PySem.W.Fast.tw861410907481972449:True:=trivial
theorem PySem.W.Fast.tw8719322107273053142:True:=trivial
theorem PySem.W.Fast.tw8808177435980889049:True:=trivial
theorem PySem.W.Fast.tw9063237755690871618:True:=trivial
theorem PySem.W.Fast.tw907284290392561240:True:=trivial
theorem PySem.W.Fast.tw9105541334661178964:True:=trivial
theorem PySem.W.Fast.tw916338409185976473:True:=trivial
theorem PySem.W.Fast.tw9223214108841902899:True:=trivial
theorem PySem.W.Fast.tw939161183457412528:True:=trivial
theorem PySem.W.Fast.tw9401326817420277053:True:=trivial
theorem PySem.W.Fast.tw9560991677805129723:True:=trivial
open PySem PySem.W PyProof.Rows
set_option maxRecDepth 100000 in
set_option maxHeartbeats 0 in
theorem PySem.Challenge.cw_pactway_k24_whole_text_again_holds : PySem.Challenge.rw_pactway_k24_whole_text_again.Holds := by
 w_on;o_law;k_head;(case hw=>w_witness2)
 k_fill
 refine L2.KG (l:=PySem.Challenge.rw_pactway_k24_whole_text_again) (n:=63) (k:=12) (x:="_law_script") (CX:=L2.jk) (sp:=My.Kr) rfl (by decide) rfl ⟨rfl,by decide,by decide⟩ (fun w h Y=>PySem.W.kIn_of Y) ?F ?S ?C
 case F=>
  intro w mg fa h KX G hmg
  have T:∃t:My.jt,My.Txt (L2.BH KX) mg t∧mg "law" = some (.ref t.de):=by
   dsimp only[L2.BH]
   refine' My.YU KX G ?za_ ?zb_ ?zc_ ?zd_ ?ze_ ?zf_ ?zg_ ?zh_ ?zi_ ?zj_ ?zk_ ?zl_ ?zm_ ?zn_ ?zo_ ?zp_ ?zq_ ?zr_ ?zs_ ?zt_ ?zu_ ?zv_ ?zw_ ?zx_ ?zy_ ?zz_ ?zA_ ?zB_ ?zC_ ?zD_ ?zE_ ?zF_ ?zG_ ?zH_ ?zI_ ?zJ_ ?zK_ ?zL_ ?zM_ ?zN_ ?zO_ ?zP_ ?zQ_ ?zR_ ?zS_ ?zT_ ?zU_ ?zV_ ?zW_ ?zX_ ?zY_ ?zZ_ ?zaa_ ?zab_ ?zac_ ?zad_ ?zae_ ?zaf_ ?zag_ ?zah_ ?zai_ ?zaj_ ?zak_ ?zal_ ?zam_ ?zan_ ?zao_ ?zap_ ?zaq_ ?zar_ ?zas_ ?zat_ ?zau_ ?zav_ ?zaw_ ?zax_ ?zay_ ?zaz_ ?zaA_ ?zaB_ ?zaC_ ?zaD_ ?zaE_ ?zaF_ ?zaG_ ?zaH_ ?zaI_ ?zaJ_ ?zaK_ ?zaL_ ?zaM_ ?zaN_ ?zaO_ ?zaP_ ?zaQ_ ?zaR_ ?zaS_ ?zaT_ ?zaU_ ?zaV_ ?zaW_ ?zaX_ ?zaY_ ?zaZ_ ?zba_ ?zbb_ ?zbc_ ?zbd_ ?zbe_ ?zbf_ ?zbg_ ?zbh_ ?zbi_ ?zbj_ ?zbk_ ?zbl_ ?zbm_ ?zbn_ ?zbo_ ?zbp_ ?zbq_ ?zbr_ ?zbs_ ?zbt_ ?zbu_ ?zbv_ ?zbw_ ?zbx_ ?zby_ ?zbz_ ?zbA_ ?zbB_ ?zbC_ ?zbD_ ?zbE_ ?zbF_ ?zbG_ ?zbH_ ?zbI_ ?zbJ_ ?zbK_ ?zbL_ ?zbM_ ?zbN_ ?zbO_ ?zbP_ ?zbQ_ ?zbR_ ?zbS_ ?zbT_ ?zbU_ ?zbV_ ?zbW_ ?zbX_ ?zbY_ ?zbZ_ ?zca_ ?zcb_ ?zcc_ ?zcd_ ?zce_ ?zcf_ ?zcg_ ?zch_ ?zci_ ?zcj_ ?zck_ ?zcl_ ?zcm_ ?zcn_ ?zco_ ?zcp_ ?zcq_ ?zcr_ ?zcs_ ?zct_ ?zcu_ ?zcv_ ?zcw_ ?zcx_ ?zcy_ ?zcz_ ?zcA_ ?zcB_ ?zcC_ ?zcD_ ?zcE_ ?zcF_ ?zcG_ ?zcH_ ?zcI_ ?zcJ_ ?zcK_ ?zcL_ ?zcM_ ?zcN_ ?zcO_ ?zcP_ ?zcQ_ ?zcR_ ?zcS_ ?zcT_ ?zcU_ ?zcV_ ?zcW_ ?zcX_ ?zcY_ ?zcZ_ ?zda_ ?zdb_ ?zdc_ ?zdd_ ?zde_ ?zdf_ ?zdg_ ?zdh_ ?zdi_ ?zdj_ ?zdk_ ?zdl_ ?zdm_ ?zdn_ ?zdo_ ?zdp_ ?zdq_ ?zdr_ ?zds_ ?zdt_ ?zdu_ ?zdv_ ?zdw_ ?zdx_ ?zdy_ ?zdz_ ?zdA_ ?zdB_ ?zdC_ ?zdD_ ?zdE_ ?zdF_ ?zdG_ ?zdH_ ?zdI_ ?zdJ_ ?zdK_ ?zdL_ ?zdM_ ?zdN_ ?zdO_ ?zdP_ ?zdQ_ ?zdR_ ?zdS_ ?zdT_ ?zdU_ ?zdV_ ?zdW_ ?zdX_ ?zdY_ ?zdZ_ ?zea_ ?zeb_ ?zec_ ?zed_ ?zee_ ?zef_ ?zeg_ ?zeh_ ?zei_ ?zej_ ?zek_ ?zel_ ?zem_ ?zen_ ?zeo_ ?zep_ ?zeq_ ?zer_ ?zes_ ?zet_ ?zeu_ ?zev_ ?zew_ ?zex_ ?zey_ ?zez_ ?zeA_ ?zeB_ ?zeC_ ?zeD_ ?zeE_ ?zeF_ ?zeG_ ?zeH_ ?zeI_ ?zeJ_ ?zeK_ ?zeL_ ?zeM_ ?zeN_ ?zeO_ ?zeP_ ?zeQ_ ?zeR_ ?zeS_ ?zeT_ ?zeU_ ?zeV_ ?zeW_ ?zeX_ ?zeY_ ?zeZ_ ?zfa_ ?zfb_ ?zfc_ ?zfd_ ?zfe_ ?zff_ ?zfg_ ?zfh_ ?zfi_ ?zfj_ ?zfk_ ?zfl_ ?zfm_ ?zfn_ ?zfo_ ?zfp_ ?zfq_ ?zfr_ ?zfs_ ?zft_ ?zfu_ ?zfv_ ?zfw_ ?zfx_ ?zfy_ ?zfz_ ?zfA_ ?zfB_ ?zfC_ ?zfD_ ?zfE_ ?zfF_ ?zfG_ ?zfH_ ?zfI_ ?zfJ_ ?zfK_ ?zfL_ ?zfM_ ?zfN_ ?zfO_ ?zfP_ ?zfQ_ ?zfR_ ?zfS_ ?zfT_ ?zfU_ ?zfV_ ?zfW_ ?zfX_ ?zfY_ ?zfZ_ ?zga_ ?zgb_ ?zgc_ ?zgd_ ?zge_ ?zgf_ ?zgg_ ?zgh_ ?zgi_ ?zgj_ ?zgk_ ?zgl_ ?zgm_ ?zgn_ ?zgo_ ?zgp_ ?zgq_ ?zgr_ ?zgs_ ?zgt_ ?zgu_ ?zgv_ ?zgw_ ?zgx_ ?zgy_ ?zgz_ ?zgA_ ?zgB_ ?zgC_ ?zgD_ ?zgE_ ?zgF_ ?zgG_ ?zgH_ ?zgI_ ?zgJ_ ?zgK_ ?zgL_ ?zgM_ ?zgN_ ?zgO_ ?zgP_ ?zgQ_ ?zgR_ ?zgS_ ?zgT_ ?zgU_ ?zgV_ ?zgW_ ?zgX_ ?zgY_ ?zgZ_ ?zha_ ?zhb_ ?zhc_ ?zhd_ ?zhe_ ?zhf_ ?zhg_ ?zhh_ ?zhi_ ?zhj_ ?zhk_ ?zhl_ ?zhm_ ?zhn_ ?zho_ ?zhp_ ?zhq_ ?zhr_ ?zhs_ ?zht_ ?zhu_ ?zhv_ ?zhw_ ?zhx_ ?zhy_ ?zhz_ ?zhA_ ?zhB_ ?zhC_ ?zhD_ ?zhE_ ?zhF_ ?zhG_ ?zhH_ ?zhI_ ?zhJ_ ?zhK_ ?zhL_ ?zhM_ ?zhN_ ?zhO_ ?zhP_ ?zhQ_ ?zhR_ ?zhS_ ?zhT_ ?zhU_ ?zhV_ ?zhW_ ?zhX_ ?zhY_ ?zhZ_ ?zia_ ?zib_ ?zic_
   (case za_ | zb_ | zc_ | zd_ | ze_ | zf_ | zg_ | zh_ | zi_ | zj_ | zk_ | zl_ | zm_ | zn_ | zo_ | zp_ | zq_ | zr_ | zs_ | zt_ | zu_ | zv_ | zw_ | zx_ | zy_ | zz_ | zA_ | zB_ | zC_ | zD_ | zE_ | zF_ | zG_ | zH_ | zI_ | zJ_ | zK_ | zL_ | zM_ | zN_ | zO_ | zP_ | zQ_ | zR_ | zS_ | zT_ | zU_ | zV_ | zW_ | zX_ | zY_ | zZ_ | zaa_ | zab_ | zac_ | zad_ | zae_ | zaf_ | zag_ | zah_ | zai_ | zaj_ | zak_ | zal_ | zam_ | zan_ | zao_ | zap_ | zaq_ | zar_ | zas_ | zat_ | zau_ | zav_ | zaw_ | zax_ | zay_ | zaz_ | zaA_ | zaB_ | zaC_ | zaD_ | zaE_ | zaF_ | zaG_ | zaH_ | zaI_ | zaJ_ | zaK_ | zaL_ | zaM_ | zaN_ | zaO_ | zaP_ | zaQ_ | zaR_ | zaS_ | zaT_ | zaU_ | zaV_ | zaW_ | zaX_ | zaY_ | zaZ_ | zba_ | zbb_ | zbc_ | zbd_ | zbe_ | zbf_ | zbg_ | zbh_ | zbi_ | zbj_ | zbk_ | zbl_ | zbm_ | zbn_ | zbo_ | zbp_ | zbq_ | zbr_ | zbs_ | zbt_ | zbu_ | zbv_ | zbw_ | zbx_ | zby_ | zbz_ | zbA_ | zbB_ | zbC_ | zbD_ | zbE_ | zbF_ | zbG_ | zbH_ | zbI_ | zbJ_ | zbK_ | zbL_ | zbM_ | zbN_ | zbO_ | zbP_ | zbQ_ | zbR_ | zbS_ | zbT_ | zbU_ | zbV_ | zbW_ | zbX_ | zbY_ | zbZ_ | zca_ | zcb_ | zcc_ | zcd_ | zce_ | zcf_ | zcg_ | zch_ | zci_ | zcj_ | zck_ | zcl_ | zcm_ | zcn_ | zco_ | zcp_ | zcq_ | zcr_ | zcs_ | zct_ | zcu_ | zcv_ | zcw_ | zcx_ | zcy_ | zcz_ | zcA_ | zcB_ | zcC_ | zcD_ | zcE_ | zcF_ | zcG_ | zcH_ | zcI_ | zcJ_ | zcK_ | zcL_ | zcM_ | zcN_ | zcO_ | zcP_ | zcQ_ | zcR_ | zcS_ | zcT_ | zcU_ | zcV_ | zcW_ | zcX_ | zcY_ | zcZ_ | zda_ | zdb_ | zdc_ | zdd_ | zde_ | zdf_ | zdg_ | zdh_ | zdi_ | zdj_ | zdk_ | zdl_ | zdm_ | zdn_ | zdo_ | zdp_ | zdq_ | zdr_ | zds_ | zdt_ | zdu_ | zdv_ | zdw_ | zdx_ | zdy_ | zdz_ | zdA_ | zdB_ | zdC_ | zdD_ | zdE_ | zdF_ | zdG_ | zdH_ | zdI_ | zdJ_ | zdK_ | zdL_ | zdM_ | zdN_ | zdO_ | zdP_ | zdQ_ | zdR_ | zdS_ | zdT_ | zdU_ | zdV_ | zdW_ | zdX_ | zdY_ | zdZ_ | zea_ | zeb_ | zec_ | zed_ | zee_ | zef_ | zeg_ | zeh_ | zei_ | zej_ | zek_ | zel_=>k_is)
   (case zem_=>exact⟨_,_,rfl,rfl,My.Vu,My.Vr⟩)
   (case zen_=>k_is)
   (case zeo_=>exact⟨_,_,rfl,rfl,My.Xm,My.Xd⟩)
   (case zep_ | zeq_ | zer_ | zes_ | zet_ | zeu_ | zev_ | zew_ | zex_ | zey_ | zez_ | zeA_ | zeB_ | zeC_ | zeD_ | zeE_ | zeF_ | zeG_ | zeH_ | zeI_ | zeJ_ | zeK_ | zeL_ | zeM_ | zeN_ | zeO_ | zeP_ | zeQ_ | zeR_ | zeS_ | zeT_ | zeU_ | zeV_ | zeW_ | zeX_ | zeY_ | zeZ_ | zfa_ | zfb_ | zfc_ | zfd_ | zfe_ | zff_ | zfg_ | zfh_ | zfi_ | zfj_ | zfk_ | zfl_ | zfm_ | zfn_ | zfo_ | zfp_ | zfq_ | zfr_ | zfs_ | zft_ | zfu_ | zfv_ | zfw_ | zfx_ | zfy_ | zfz_ | zfA_ | zfB_ | zfC_ | zfD_ | zfE_ | zfF_ | zfG_ | zfH_ | zfI_ | zfJ_ | zfK_ | zfL_ | zfM_ | zfN_ | zfO_ | zfP_ | zfQ_ | zfR_ | zfS_ | zfT_ | zfU_ | zfV_ | zfW_ | zfX_ | zfY_ | zfZ_ | zga_ | zgb_ | zgc_ | zgd_ | zge_ | zgf_ | zgg_ | zgh_ | zgi_ | zgj_ | zgk_ | zgl_ | zgm_ | zgn_ | zgo_ | zgp_ | zgq_ | zgr_ | zgs_ | zgt_ | zgu_ | zgv_ | zgw_ | zgx_ | zgy_ | zgz_ | zgA_ | zgB_ | zgC_ | zgD_ | zgE_ | zgF_ | zgG_ | zgH_ | zgI_ | zgJ_ | zgK_ | zgL_ | zgM_ | zgN_ | zgO_ | zgP_ | zgQ_ | zgR_ | zgS_ | zgT_ | zgU_ | zgV_ | zgW_ | zgX_ | zgY_ | zgZ_ | zha_ | zhb_ | zhc_ | zhd_ | zhe_=>k_is)
   (case zhf_=>rfl)
   (case zhg_ | zhh_ | zhi_ | zhj_ | zhk_ | zhl_ | zhm_ | zhn_ | zho_ | zhp_ | zhq_=>k_is)
   (case zhr_ | zhs_ | zht_ | zhu_ | zhv_ | zhw_ | zhx_ | zhy_ | zhz_ | zhA_ | zhB_ | zhC_ | zhD_ | zhE_ | zhF_ | zhG_ | zhH_ | zhI_ | zhJ_ | zhK_ | zhL_ | zhM_=>kit_is)
   (case zhN_ | zhO_ | zhP_ | zhQ_ | zhR_ | zhS_ | zhT_ | zhU_ | zhV_ | zhW_ | zhX_ | zhY_ | zhZ_ | zia_ | zib_ | zic_=>k_is)
  obtain⟨t,T,hl⟩:=T
  have e0:=hmg.symm.trans hl
  cases e0
  exact⟨_,My.Q0 T,fun base kb nb=>My.XB T⟩
 case S=>exact fun K H a ns hl hO hS=>My.Q1 hl hO hS
 case C=>exact fun _ _ _ _ z=>z
