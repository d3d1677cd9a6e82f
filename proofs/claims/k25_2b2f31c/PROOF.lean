import PyProof.Rows.All
import Wide.All
import OpenK.AllK
import Wide.FinOn
import PyProof.EqAt
import PyProof.EqKinds
import PyProof.TupleCall
import Lean
import PyProof.SetNew
import PyProof.SetRoads
import PySem.Challenge.RW_pactway_k25_first_wrong_row
set_option Elab.async false
set_option linter.all false
set_option maxRecDepth 100000
namespace L2
open PySem PySem.Spec PyProof.Rows
noncomputable abbrev Key:=Sum Int Str
noncomputable def rS:Key→Value→Bool
 | .inl k,v=>Value.isInt k v
 | .inr x,v=>Value.isStrOf x v
noncomputable def HC (w:World):Key→Int
 | .inl k=>hashInt k
 | .inr x=>hashStr w x
theorem xh:∀{k:Key} {v:Value},rS k v=true→(∃i t,k=Sum.inl i∧v=Value.int i t)∨(∃x t,k=Sum.inr x∧v=Value.str x t)
 | .inl i,v,h=>by
  obtain⟨t,e⟩:=Value.isInt_shape (k:=i) (v:=v) h
  exact .inl ⟨i,t,rfl,e⟩
 | .inr x,v,h=>by
  obtain⟨t,e⟩:=Value.isStrOf_shape (x:=x) (v:=v) h
  exact .inr ⟨x,t,rfl,e⟩
theorem Zb (i:Int) (t:Tok):rS (.inl i) (.int i t)=true:=by simp [rS,Value.isInt]
theorem Zp (x:Str) (t:Tok):rS (.inr x) (.str x t)=true:=by simp [rS,Value.isStrOf]
theorem V7 (a b:Int):decide ((Sum.inl a:Key)=Sum.inl b)=(a == b):=by
 by_cases e:a=b
 ·subst e;simp
 ·have h:¬(Sum.inl a:Key)=Sum.inl b:=fun q=>e (Sum.inl.inj q)
  rw[decide_eq_false h]
  exact(beq_eq_false_iff_ne.mpr e).symm
theorem Wz (a b:Str):decide ((Sum.inr a:Key)=Sum.inr b)=decide (a=b):=by
 by_cases e:a=b
 ·subst e;simp
 ·have h:¬(Sum.inr a:Key)=Sum.inr b:=fun q=>e (Sum.inr.inj q)
  rw[decide_eq_false h,decide_eq_false e]
theorem V8 (a:Int) (b:Str):decide ((Sum.inl a:Key)=Sum.inr b)=false:=decide_eq_false (fun q=>nomatch q)
theorem V9 (a:Str) (b:Int):decide ((Sum.inr a:Key)=Sum.inl b)=false:=decide_eq_false (fun q=>nomatch q)
noncomputable def kZ (prog:Program) (w:World):PySem.KeyKind prog w Key where
 is:=rS
 hash:=HC w
 inj:=fun v a b ha hb=>by
  rcases xh ha with ⟨i,t,rfl,rfl⟩ | ⟨x,t,rfl,rfl⟩
  ·rcases xh hb with ⟨j,u,rfl,e⟩ | ⟨y,u,rfl,e⟩
   ·injection e with e1 _;rw[e1]
   ·exact nomatch e
  ·rcases xh hb with ⟨j,u,rfl,e⟩ | ⟨y,u,rfl,e⟩
   ·exact nomatch e
   ·injection e with e1 _;rw[e1]
 byValue:=fun k v h=>by
  rcases xh h with ⟨i,t,rfl,rfl⟩ | ⟨x,t,rfl,rfl⟩<;>rfl
 pyHash:=fun hv h=>by
  rcases xh hv with ⟨i,t,rfl,rfl⟩ | ⟨x,t,rfl,rfl⟩
  ·exact wpAny_pyHash_int h
  ·exact wpAny_pyHash_str h
 eqBool:=fun hu hv h=>by
  rcases xh hu with ⟨i,t,rfl,rfl⟩ | ⟨x,t,rfl,rfl⟩
  ·rcases xh hv with ⟨j,u,rfl,rfl⟩ | ⟨y,u,rfl,rfl⟩
   ·rw[V7] at h;exact wpAny_eqBool_int h
   ·rw[V8] at h;exact SeqAt.EqAt.int_str i t y u _ _ _ _ h
  ·rcases xh hv with ⟨j,u,rfl,rfl⟩ | ⟨y,u,rfl,rfl⟩
   ·rw[V9] at h;exact SeqAt.EqAt.str_int x t j u _ _ _ _ h
   ·rw[Wz] at h;exact wpAny_eqBool_str h
 «strs»:=fun k x t v h=>by
  rcases xh h with ⟨i,u,rfl,e⟩ | ⟨y,u,rfl,e⟩
  ·exact nomatch e
  ·injection e with e1 _
   subst e1
   cases v<;>rfl
theorem nS (prog:Program) (w:World) (i:Int) (t:Tok):(kZ prog w).is (.inl i) (.int i t)=true:=Zb i t
theorem nT (prog:Program) (w:World) (x:Str) (t:Tok):(kZ prog w).is (.inr x) (.str x t)=true:=Zp x t
end L2
namespace L2
open PySem PySem.Spec PyProof.Rows
inductive V where
 | non | bl (b:Bool) | int (i:Int) | str (x:Str) | byt (b:Array UInt8) | flt (b:UInt64) | ref (a:Addr) | ty (n:String)
 deriving DecidableEq
noncomputable def RelV:V→Value→Prop
 | .non,u=>u=Value.none
 | .bl b,u=>u=Value.bool b
 | .int i,u=>∃t,u=Value.int i t
 | .str x,u=>∃t,u=Value.str x t
 | .byt b,u=>∃t,u=Value.bytes b t
 | .flt b,u=>∃t,u=Value.float b t
 | .ref a,u=>u=Value.ref a
 | .ty n,u=>u=Value.type n
noncomputable abbrev Vals:List V→List Value→Prop:=Paired RelV
theorem Vals.length {xs:List V} {us:List Value} (r:Vals xs us):xs.length=us.length:=Paired.length r
theorem Vals.get:∀{xs:List V} {us:List Value} {i:Nat} {x:V},Vals xs us→xs[i]?=some x→∃u,us[i]?=some u∧RelV x u
 | _,_,_,_,.nil,e=>by simp at e
 | _,_,0,_,.cons r _,e=>by simp at e;subst e;exact⟨_,rfl,r⟩
 | _,_,i + 1,x,.cons _ t,e=>by
  obtain⟨u,h1,h2⟩:=Vals.get (i:=i) (x:=x) t (by simpa using e)
  exact⟨u,by simpa using h1,h2⟩
theorem Vals.append:∀{xs ys:List V} {us ws:List Value},Vals xs us→Vals ys ws→Vals (xs ++ ys) (us ++ ws)
 | _,_,_,_,.nil,s=>s
 | _,_,_,_,.cons r t,s=>.cons r (Vals.append t s)
theorem Vals.take:∀{xs:List V} {us:List Value} (n:Nat),Vals xs us→Vals (xs.take n) (us.take n)
 | _,_,0,_=>.nil
 | _,_,_ + 1,.nil=>.nil
 | _,_,n + 1,.cons r t=>.cons r (Vals.take n t)
theorem Vals.drop:∀{xs:List V} {us:List Value} (n:Nat),Vals xs us→Vals (xs.drop n) (us.drop n)
 | _,_,0,r=>r
 | _,_,_ + 1,.nil=>.nil
 | _,_,n + 1,.cons _ t=>Vals.drop n t
noncomputable def gW:Option V→Option Value→Prop
 | some v,some u=>RelV v u
 | none,none=>True
 | _,_=>False
noncomputable def KV {κ:Type}:List (κ × V)→List (κ × Value)→Prop:=Paired fun (p:κ × V) (q:κ × Value)=>p.1=q.1∧RelV p.2 q.2
noncomputable def kV:Key→V
 | .inl i=>.int i
 | .inr x=>.str x
inductive HO where
 | lst (xs:List V)
 | tup (xs:List V)
 | dK (kvs:List (Key × V)) | dT (kvs:List (List Key × V))
 | set (S:Int→Bool) (n:Nat)
 | ins (C dx:Addr) (fs:List (Str × V))
 | own (x:Addr)
 | xd (fs:List (Str × V))
 | met (f x:Addr)
 | rng (lo hi:Int)
 | frz (o:Obj) (u:HO)
 | tbl (ps:Array Value)
 | ext (φ:Heap→Prop)
noncomputable abbrev Hp:=Addr→Option HO
noncomputable def upd (H:Hp) (a:Addr) (o:HO):Hp:=fun b=>if b=a then some o else H b
theorem qr {H:Hp} {a:Addr} {o:HO}:upd H a o a=some o:=by unfold upd;rw[if_pos rfl]
theorem qB {H:Hp} {a b:Addr} {o:HO} (h:b≠a):upd H a o b=H b:=by unfold upd;rw[if_neg h]
theorem gd {H:Hp} {a:Addr} {o u:HO}:upd (upd H a o) a u=upd H a u:=by
 funext b;unfold upd;split<;>rfl
theorem dI {H:Hp} {a b:Addr} {o u:HO} (h:H a=some o) (h':H b=some u) (d:o≠u):a≠b:=by
 intro e;subst e;rw[h] at h';exact d (Option.some.inj h')
theorem qm {H:Hp} {a b:Addr} {o:HO} (h:H a=some o) (h':H b=none):a≠b:=by
 intro e;subst e;rw[h] at h';cases h'
section
variable (P:Program) (w:World)
noncomputable def xx (H:Hp) (h:Heap) (a:Addr):HO→Prop
 | .lst xs=>xs.length≤sizeLine∧∃(its:List Value) (n:Nat),Vals xs its∧h.get? a=some { cls:=.type "list",data:=.seq its.toArray n }
 | .tup xs=>xs.length≤sizeLine∧∃its:List Value,Vals xs its∧IsTup h a its.toArray
 | .dK kvs=>kvs.length≤sizeLine∧(a == sysModules)=false∧∃vs,KV kvs vs∧h.DictOf (kZ P w) a vs
 | .dT kvs=>kvs.length≤sizeLine∧(a == sysModules)=false∧∃xs:List (List Key × Addr × Value),
   Paired (fun (p:List Key × V) (q:List Key × Addr × Value)=>p.1=q.1∧H q.2.1=some (.tup (p.1.map kV))∧RelV p.2 q.2.2) kvs xs∧
   ∃o es ep,h.get? a=some o∧o.ExactDict∧o.data=.dict es ep∧es.toList=xs.map (entryOfKey (tupleKind (kZ P w)))∧(xs.map (·.1)).Nodup
 | .set S n=>h.SetOf (intKind P w) a S n
 | .ins C dx fs=>H dx=some (.own a)∧fs.length≤1000∧dx≠a∧h.get? a=some (PySem.W.instObj C dx)∧
   ∃mA,h.Ns1 dx mA∧(∀f,gW (fs.lookup f) (mA f))∧PySem.Within mA (fs.map (·.1))
 | .own _=>∃o,h.get? a=some o
 | .xd fs=>∃mA,h.Ns1 a mA∧∀f,gW (fs.lookup f) (mA f)
 | .rng lo hi=>∃t u v,h.get? a=some { cls:=.type "range",data:=.fields #[.int lo t,.int hi u,.int 1 v] }
 | .frz o u=>h.get? a=some o∧xx H h a u
 | .tbl ps=>h.get? a=some { cls:=.none,data:=.fields ps }
 | .met f x=>h.get? a=some (PySem.W.methodObj (.ref f) (.ref x))
 | .ext φ=>φ h∧(∃o,h.get? a=some o)∧∀h1 h2:Heap,φ h1→(∀o,h1.get? a=some o→h2.get? a=some o)→φ h2
noncomputable def hU (H:Hp) (h:Heap):Prop:=∀a o,H a=some o→xx P w H h a o
end
section
variable {P:Program} {w:World} {H H':Hp} {h h':Heap} {a:Addr} {o:HO}
theorem xx.lt (x:xx P w H h a o):a < h.objs.size:=by
 cases o with
 | lst xs=>obtain⟨_,_,_,_,e⟩:=x;exact Heap.lt_size e
 | tup xs=>obtain⟨_,_,_,p⟩:=x;exact p.lt
 | dK kvs=>obtain⟨_,_,_,_,o,_,_,e,_⟩:=x;exact Heap.lt_size e
 | dT kvs=>obtain⟨_,_,_,_,o,_,_,e,_⟩:=x;exact Heap.lt_size e
 | set S n=>obtain⟨o,_,_,_,e,_⟩:=x;exact Heap.lt_size e
 | ins C dx fs=>obtain⟨_,_,_,e,_⟩:=x;exact Heap.lt_size e
 | own y=>obtain⟨_,e⟩:=x;exact Heap.lt_size e
 | xd fs=>obtain⟨_,⟨_,_,_,e,_⟩,_⟩:=x;exact Heap.lt_size e
 | rng lo hi=>obtain⟨_,_,_,e⟩:=x;exact Heap.lt_size e
 | frz ob u=>obtain⟨e,_⟩:=x;exact Heap.lt_size e
 | tbl ps=>exact Heap.lt_size (show h.get? a=some _ from x)
 | met f y=>exact Heap.lt_size (show h.get? a=some _ from x)
 | ext φ=>obtain⟨_,⟨_,e⟩,_⟩:=x;exact Heap.lt_size e
theorem Paired.QR {α β:Type} {F G:α→β→Prop}:∀{l₁:List α} {l₂:List β},Paired F l₁ l₂→(∀a b,F a b→G a b)→Paired G l₁ l₂
 | _,_,.nil,_=>.nil
 | _,_,.cons r t,f=>.cons (f _ _ r) (Paired.QR t f)
theorem Paired.imp' {α β:Type} {F G:α→β→Prop} (f:∀a b,F a b→G a b) {l₁:List α} {l₂:List β} (r:Paired F l₁ l₂):Paired G l₁ l₂:=Paired.QR r f
theorem xx.tG (x:xx P w H h a o) (k:∀b u,(b=a∨H b=some (.own a))→h.get? b=some u→h'.get? b=some u)
  (ho:∀b,H b=some (.own a)→H' b=some (.own a)) (ht:∀b xs,H b=some (.tup xs)→H' b=some (.tup xs)):xx P w H' h' a o:=by
 induction o with
 | lst xs=>obtain⟨z,its,n,r,e⟩:=x;exact⟨z,its,n,r,k _ _ (.inl rfl) e⟩
 | tup xs=>obtain⟨z,its,r,ob,e,c⟩:=x;exact⟨z,its,r,ob,k _ _ (.inl rfl) e,c⟩
 | dK kvs=>obtain⟨z,y,vs,r,ob,es,ep,e,c⟩:=x;exact⟨z,y,vs,r,ob,es,ep,k _ _ (.inl rfl) e,c⟩
 | dT kvs=>
  obtain⟨z,y,xs,r,ob,es,ep,e,c⟩:=x
  exact⟨z,y,xs,Paired.QR r fun p q z=>⟨z.1,ht _ _ z.2.1,z.2.2⟩,ob,es,ep,k _ _ (.inl rfl) e,c⟩
 | set S n=>obtain⟨ob,es,ep,t,e,c⟩:=x;exact⟨ob,es,ep,t,k _ _ (.inl rfl) e,c⟩
 | ins C dx fs=>
  obtain⟨d,z,ne,e,mA,⟨od,es,ep,e2,c⟩,r⟩:=x
  exact⟨ho _ d,z,ne,k _ _ (.inl rfl) e,mA,⟨od,es,ep,k _ _ (.inr d) e2,c⟩,r⟩
 | own y=>obtain⟨ob,e⟩:=x;exact⟨ob,k _ _ (.inl rfl) e⟩
 | xd fs=>obtain⟨mA,⟨od,es,ep,e,c⟩,r⟩:=x;exact⟨mA,⟨od,es,ep,k _ _ (.inl rfl) e,c⟩,r⟩
 | rng lo hi=>obtain⟨t,u,v,e⟩:=x;exact⟨t,u,v,k _ _ (.inl rfl) e⟩
 | frz ob u ih=>obtain⟨e,q⟩:=x;exact⟨k _ _ (.inl rfl) e,ih q⟩
 | tbl ps=>
  have e:h.get? a=some { cls:=.none,data:=.fields ps }:=x
  show h'.get? a=some { cls:=.none,data:=.fields ps }
  exact k a _ (.inl rfl) e
 | met f y=>
  have e:h.get? a=some (PySem.W.methodObj (.ref f) (.ref y)):=x
  show h'.get? a=some (PySem.W.methodObj (.ref f) (.ref y))
  exact k a _ (.inl rfl) e
 | ext φ=>obtain⟨p,⟨o,e⟩,st⟩:=x;exact⟨st _ _ p fun o q=>k _ _ (.inl rfl) q,⟨o,k _ _ (.inl rfl) e⟩,st⟩
theorem hU.lt (x:hU P w H h) (e:H a=some o):a < h.objs.size:=(x a o e).lt
theorem hU.fresh (x:hU P w H h) (e:h.objs.size≤a):H a=none:=by
 cases q:H a with
 | none=>rfl
 | some u=>exact absurd (Nat.lt_of_lt_of_le (x.lt q) e) (Nat.lt_irrefl _)
theorem hU.kept (x:hU P w H h) (k:∀b u,h.get? b=some u→h'.get? b=some u):hU P w H h':=fun a o e=>
 (x a o e).tG (fun b u _ q=>k b u q) (fun _ q=>q) fun _ _ q=>q
theorem hU.laid (x:hU P w H h) (k:∀b u,h.get? b=some u→h'.get? b=some u) (hp:h.objs.size≤a) (new:xx P w (upd H a o) h' a o):hU P w (upd H a o) h':=fun b u e=>by
 have hn:=x.fresh hp
 by_cases hb:b=a
 ·subst hb;rw[qr] at e;cases e;exact new
 ·rw[qB hb] at e
  exact(x b u e).tG (fun c v _ q=>k c v q) (fun c q=>by rw[qB (qm q hn)];exact q) fun c xs q=>by rw[qB (qm q hn)];exact q
end
noncomputable def Rd (H:Hp) (a:Addr) (u:HO):Prop:=H a=some u∨∃o,H a=some (.frz o u)
theorem Rd.ok {P:Program} {w:World} {H:Hp} {h:Heap} {a:Addr} {u:HO} (r:Rd H a u) (x:hU P w H h):xx P w H h a u:=by
 rcases r with r | ⟨o,r⟩
 ·exact x a u r
 ·obtain⟨_,q⟩:=x a _ r
  exact q
noncomputable def Yp:Option HO→Prop
 | some (.lst _)=>True
 | some (.dK _)=>True
 | some (.dT _)=>True
 | some (.set _ _)=>True
 | some (.ins _ _ _)=>True
 | some (.ext _)=>True
 | _=>False
section
variable {P:Program} {w:World} {H:Hp} {h h':Heap} {x e:Addr} {o':HO}
theorem hU.write (ok:hU P w H h) (mu:Yp (H x)) (he:e=x∨H e=some (.own x)) (k:∀b u,b≠e→h.get? b=some u→h'.get? b=some u) (heo:∃u,h'.get? e=some u)
  (new:xx P w (upd H x o') h' x o'):hU P w (upd H x o') h':=fun b u q=>by
 have nown:∀c y,H c=some (.own y)→c≠x:=fun c y r z=>by subst z;rw[r] at mu;exact mu
 have ntup:∀c xs,H c=some (.tup xs)→c≠x:=fun c xs r z=>by subst z;rw[r] at mu;exact mu
 by_cases hb:b=x
 ·subst hb;rw[qr] at q;cases q;exact new
 ·rw[qB hb] at q
  by_cases hbe:b=e
  ·have q':H b=some (.own x):=by
    rcases he with z | z
    ·exact absurd (hbe.trans z) hb
    ·rw[hbe];exact z
   rw[q] at q';cases q'
   obtain⟨v,hv⟩:=heo
   exact⟨v,by rw[hbe];exact hv⟩
  ·refine(ok b u q).tG (fun c v hc r=>k c v ?_ r) (fun c r=>by rw[qB (nown c b r)];exact r) fun c xs r=>by rw[qB (ntup c xs r)];exact r
   rcases hc with rfl | hc
   ·exact hbe
   ·rintro rfl
    rcases he with z | z
    ·exact nown c b hc z
    ·rw[hc] at z;cases z;exact hb rfl
end
structure Un (fs ex:List Addr) (H H':Hp) (h h':Heap):Prop where
 keep:∀b o,h.get? b=some o→H b=none→b∉fs→b∉ex→h'.get? b=some o
 slot:∀b o,h.get? b=some o→H b=none→b∈fs→b∉ex→∃sl,h'.get? b=some { o with slots:=sl }
 free:∀b o,h.get? b=some o→H b=none→b∉ex→H' b=none
 there:∀b o,h.get? b=some o→b∉ex→∃o',h'.get? b=some o'
 rZ:∀b xs,H b=some (.tup xs)→H' b=some (.tup xs)
 cL:∀b o u,H b=some (.frz o u)→H' b=some (.frz o u)
 rm:∀b ps,H b=some (.tbl ps)→∃more,H' b=some (.tbl (ps ++ more))
section
variable {fs fs' ex ex':List Addr} {H H1 H2:Hp} {h h1 h2 h':Heap} {a x e:Addr} {o:HO}
theorem Un.any (u:Un fs ex H H1 h h1) {b:Addr} {ob:Obj} (q:h.get? b=some ob) (n:H b=none) (hx:b∉ex):∃sl,h1.get? b=some { ob with slots:=sl }:=by
 by_cases hb:b∈fs
 ·exact u.slot b ob q n hb hx
 ·exact⟨ob.slots,u.keep b ob q n hb hx⟩
theorem Un.kept (k:∀b u,h.get? b=some u→h'.get? b=some u):Un fs ex H H h h':=
 ⟨fun b ob q _ _ _=>k b ob q,fun b ob q _ _ _=>⟨ob.slots,k b ob q⟩,fun _ _ _ n _=>n,fun b ob q _=>⟨ob,k b ob q⟩,fun _ _ q=>q,fun _ _ _ q=>q,fun _ ps q=>⟨#[],by rw[q];simp⟩⟩
theorem Un.refl:Un fs ex H H h h:=Un.kept fun _ _ q=>q
theorem Un.laid (k:∀b u,h.get? b=some u→h'.get? b=some u) (hp:h.objs.size≤a) (hn:H a=none):Un fs ex H (upd H a o) h h' where
 keep:=fun b u q _ _ _=>k b u q
 slot:=fun b u q _ _ _=>⟨u.slots,k b u q⟩
 free:=fun b u q n _=>by rw[qB (Nat.ne_of_lt (Nat.lt_of_lt_of_le (Heap.lt_size q) hp))];exact n
 there:=fun b u q _=>⟨u,k b u q⟩
 rZ:=fun b xs q=>by rw[qB (qm q hn)];exact q
 cL:=fun b u xs q=>by rw[qB (qm q hn)];exact q
 rm:=fun b ps q=>⟨#[],by rw[qB (qm q hn),q];simp⟩
theorem Un.write (mu:Yp (H x)) (he:e=x∨H e=some (.own x)) (k:∀b u,b≠e→h.get? b=some u→h'.get? b=some u) (heo:∃u,h'.get? e=some u):Un fs ex H (upd H x o) h h':=by
 have hx:∀b,H b=none→b≠x:=fun b n z=>by subst z;rw[n] at mu;exact mu
 have hb:∀b,H b=none→b≠e:=fun b n z=>by
  subst z
  rcases he with r | r
  ·exact hx b n r
  ·rw[n] at r;cases r
 have hm:∀b u,H b=some u→¬Yp (some u)→b≠x:=fun b u q nm z=>by subst z;rw[q] at mu;exact nm mu
 refine⟨fun b u q n _ _=>k b u (hb b n) q,fun b u q n _ _=>⟨u.slots,k b u (hb b n) q⟩,fun b u q n _=>by rw[qB (hx b n)];exact n,fun b u q _=>?_,
  fun b xs q=>by rw[qB (hm b _ q fun z=>z)];exact q,fun b u xs q=>by rw[qB (hm b _ q fun z=>z)];exact q,fun b ps q=>⟨#[],by rw[qB (hm b _ q fun z=>z),q];simp⟩⟩
 by_cases hbe:b=e
 ·subst hbe;exact heo
 ·exact⟨u,k b u hbe q⟩
end
noncomputable def G7 (h:Heap) (H:Hp):List Addr:=(List.range h.objs.size).filter fun a=>(H a).isSome
noncomputable def sx (h:Heap) (H:Hp):Heap:=PySem.W.hideAll h (G7 h H)
theorem Zv (h:Heap) (H:Hp):(sx h H).objs.size=h.objs.size:=PySem.W.hideAll_size _ _
theorem QK {h:Heap} {H:Hp} {b:Addr} {o:Obj} (e:h.get? b=some o) (n:H b=none):(sx h H).get? b=some o:=
 PySem.W.hideAll_get _ e fun hm=>by
  have q:(H b).isSome=true:=(List.mem_filter.mp hm).2
  rw[n] at q;simp at q
theorem XU {h:Heap} {H:Hp} {b:Addr} {o:Obj} (e:(sx h H).get? b=some o):h.get? b=some o∧H b=none:=by
 have e':h.get? b=some o:=PySem.W.of_hideAll (G7 h H) e
 refine⟨e',?_⟩
 cases q:H b with
 | none=>rfl
 | some x=>
  have hm:b∈G7 h H:=List.mem_filter.mpr ⟨List.mem_range.mpr (Heap.lt_size e'),by simp [q]⟩
  have z:(sx h H).get? b=none:=PySem.W.hideAll_none (G7 h H) hm
  rw[z] at e;cases e
noncomputable def Xj (g h:Heap) (L:Addr):List (Addr × Obj):=(List.range h.objs.size).filterMap fun a=>if a=L∨(g.get? a).isSome=true then none else (h.get? a).map fun o=>(a,o)
noncomputable def rest (g h:Heap) (L d:Addr):List (Addr × Obj):=(Xj g h L).filter fun p=>decide (p.1≠d)
end L2
namespace L2
open PySem PySem.Spec PyProof.Rows
structure Mod (K:PySem.W.Frag) (mg:Str→Option Value) (base:Heap):Prop where
 ZA:K.In base
 glob:base.Ns mainGlobals mg
 blt:∃mb,base.Ns builtinsNs mb∧∀x:Str,x≠"__name__"→mb x=bootBuiltins x
 nolimit:base.NoLimit
structure Cx where
 prog:Program
 w:World
 K:PySem.W.Frag
 mg:Str→Option Value
 base:Heap
 A:Around
 N:List Str
 s₀:Shared
 H₀:Hp
 env:Env
 outer:List Env
 stack:List Env
 ex:List Addr
 fn:Str→Bool
 calm:Bool
 pn:List (Addr × Obj)
 xe:Value→Shared→Prop
noncomputable def lA (l:List Env):List Addr:=l.filterMap (·.frame)
noncomputable abbrev Cx.fs (X:Cx):List Addr:=lA X.outer
noncomputable def GC (sc:Scope) (x:Str):Prop:=sc.names.lookup x=some .local∨sc.names.lookup x=some .cell∨sc.names.lookup x=some .free
noncomputable def Loc (sc:Scope) (x:Str):Prop:=sc.names.lookup x=some .local∨sc.names.lookup x=some .cell
noncomputable def Look (env:Env) (h:Heap) (m:Str→Option Value) (x:Str) (u:Value):Prop:=
 (env.kindOf x=some .local∧m x=some u)∨((env.kindOf x=some .cell∨env.kindOf x=some .free)∧∃c,env.cells.lookup x=some c∧h.IsCell c (some u))
structure Cx.Ok (X:Cx):Prop where
 mod:Mod X.K X.mg X.base
 kind:X.env.scope.kind=.function
 glob:X.env.globals=mainGlobals
 blt:X.env.builtins=builtinsNs
 above:X.s₀.heap.objs.size≤X.env.locals
 inj:∀x y c,X.env.cells.lookup x=some c→X.env.cells.lookup y=some c→x=y
 has:∀x,(X.env.kindOf x=some .cell∨X.env.kindOf x=some .free)→∃c,X.env.cells.lookup x=some c
 Yk:∀x c,X.fn x=true→X.env.cells.lookup x=some c→X.s₀.heap.objs.size≤c
 hd:X.calm=true→X.A.handled=none
 frames:X.A.frames=some X.stack
 Gs:X.stack=X.outer∨(X.stack=X.env :: X.outer∧X.env.frame=some X.env.locals)
 VA:∀b∈X.ex,b≠X.env.locals∧∀x c,X.env.cells.lookup x=some c→c≠b
 bs:∀b o,X.base.get? b=some o→X.s₀.heap.get? b=some o∧X.H₀ b=none
 aI:X.base.objs.size≤X.s₀.heap.objs.size
 iH:∀b o,X.base.get? b=some o→b∉X.ex
 ib:∀b∈X.ex,b∉X.fs
 dw:X.s₀.heap.FunFrames X.base X.outer
 KO:∀b∈X.fs,X.H₀ b=none
structure Inv (X:Cx) (pins:List (Addr × Obj)) (σ:List (Option V)) (H:Hp) (s:Shared):Prop where
 ok:X.Ok
 os:s.os=X.s₀.os
 bare:AllBare s.gens
 base:Un X.fs X.ex X.H₀ H X.s₀.heap s.heap
 loc:∃m,s.heap.Ns X.env.locals m∧∀(i:Nat) (x:Str) (v:V),X.N[i]?=some x→σ[i]?=some (some v)→GC X.env.scope x→∃u,RelV v u∧Look X.env s.heap m x u
 cell:∀x c,X.env.cells.lookup x=some c→∃v,s.heap.IsCell c v
 free:H X.env.locals=none
 yi:∀x c,X.env.cells.lookup x=some c→H c=none
 pin:∀p∈X.pn ++ pins,s.heap.get? p.1=some p.2∧H p.1=none∧p.1≠X.env.locals∧p.1∉X.fs∧∀v,p.2.data≠.cell v
 jw:hU X.prog X.w H s.heap
 len:σ.length=X.N.length
section
variable {X:Cx} {pins:List (Addr × Obj)} {σ:List (Option V)} {H H':Hp} {s:Shared} {h':Heap}
theorem Cx.Ok.Bz (ok:X.Ok) {b:Addr} {o:Obj} (e:X.base.get? b=some o):b∉X.fs:=fun hb=>by
 have:=(ok.dw.mem hb).1
 rw[e] at this;cases this
theorem Inv.bs (I:Inv X pins σ H s):∀b o,X.base.get? b=some o→s.heap.get? b=some o∧H b=none:=fun b o e=>
 ⟨I.base.keep b o (I.ok.bs b o e).1 (I.ok.bs b o e).2 (I.ok.Bz e) (I.ok.iH b o e),I.base.free b o (I.ok.bs b o e).1 (I.ok.bs b o e).2 (I.ok.iH b o e)⟩
theorem Inv.bk (I:Inv X pins σ H s):∀b o,X.base.get? b=some o→s.heap.get? b=some o:=fun b o e=>(I.bs b o e).1
theorem Inv.mod (I:Inv X pins σ H s):Mod X.K X.mg X.base:=I.ok.mod
theorem Inv.gB (I:Inv X pins σ H s):X.K.In s.heap:=I.ok.mod.ZA.keeps I.bk
theorem Inv.fr (I:Inv X pins σ H s):∃m,Fr X.base X.env.locals s.heap m:=
 let ⟨m,hn,_⟩:=I.loc
 ⟨m,hn,I.bk,Nat.le_trans I.ok.aI I.ok.above⟩
theorem Inv.lt (I:Inv X pins σ H s):X.env.locals < s.heap.objs.size:=let ⟨_,hn,_⟩:=I.loc;hn.lt
theorem Inv.sz (I:Inv X pins σ H s):X.s₀.heap.objs.size≤s.heap.objs.size:=Nat.le_trans I.ok.above (Nat.le_of_lt I.lt)
theorem Inv.Bq (I:Inv X pins σ H s) {a:Addr} (h:s.heap.objs.size≤a):a∉X.fs:=fun hb=>by
 obtain⟨_,o,ho,_⟩:=I.ok.dw.mem hb
 exact absurd (Nat.lt_of_lt_of_le (Heap.lt_size ho) (Nat.le_trans I.sz h)) (Nat.lt_irrefl _)
theorem Inv.KR (I:Inv X pins σ H s):∀x c,X.env.cells.lookup x=some c→c≠X.env.locals:=fun x c e z=>by
 obtain⟨v,o,ho,hd⟩:=I.cell x c e
 obtain⟨m,⟨o',es,ep,ho',hd',_⟩,_⟩:=I.loc
 rw[z,ho'] at ho;cases ho;rw[hd'] at hd;cases hd
theorem Inv.dw (I:Inv X pins σ H s):s.heap.FunFrames X.base X.outer:=by
 have all:∀(l:List Env),(∀b∈lA l,b∈X.fs)→X.s₀.heap.FunFrames X.base l→s.heap.FunFrames X.base l:=by
  intro l
  induction l with
  | nil=>intro _ _;trivial
  | cons env r ih=>
   intro hs hl
   obtain⟨hk,⟨L,o,hf,hn,ho,hd⟩,hr⟩:=hl
   have hL:L∈X.fs:=hs L (by unfold lA;rw[List.filterMap_cons,hf];exact List.mem_cons_self)
   obtain⟨sl,e⟩:=I.base.slot L o ho (I.ok.KO L hL) hL fun z=>I.ok.ib L z hL
   exact⟨hk,⟨L,_,hf,hn,e,hd⟩,ih (fun b hb=>hs b (by unfold lA;rw[List.filterMap_cons,hf];exact List.mem_cons_of_mem _ hb)) hr⟩
 exact all X.outer (fun _ hb=>hb) I.ok.dw
theorem Inv.stack (I:Inv X pins σ H s):s.heap.FunFrames X.base X.stack:=by
 rcases I.ok.Gs with e | ⟨e,hf⟩
 ·rw[e];exact I.dw
 ·rw[e]
  obtain⟨m,hn,_⟩:=I.loc
  refine .cons (by rw[I.ok.kind];decide) hf hn ?_ I.dw
  exact Heap.get?_none_of_le (Nat.le_trans I.ok.aI I.ok.above)
theorem Inv.uR (I:Inv X pins σ H s):∀b∈lA X.stack,b∈X.env.locals :: X.fs:=fun b hb=>by
 rcases I.ok.Gs with e | ⟨e,hf⟩
 ·rw[e] at hb;exact List.mem_cons_of_mem _ hb
 ·rw[e] at hb
  unfold lA at hb
  rw[List.filterMap_cons,hf] at hb
  exact hb
theorem Inv.p5 (I:Inv X pins σ H s):∀b∈lA X.stack,H b=none:=fun b hb=>by
 rcases List.mem_cons.mp (I.uR b hb) with e | hb
 ·rw[e];exact I.free
 ·obtain⟨_,o,ho,_⟩:=I.ok.dw.mem hb
  exact I.base.free b o ho (I.ok.KO b hb) fun z=>I.ok.ib b z hb
theorem Inv.step {g':Array GenState} {t':Nat} {d':Drawn} {ch:List Addr} (I:Inv X pins σ H s)
  (hch:∀b∈ch,(b∈X.ex∨X.s₀.heap.objs.size≤b)∧b≠X.env.locals∧(∀x c,X.env.cells.lookup x=some c→c≠b)∧∀p∈X.pn ++ pins,p.1≠b)
  (keep:∀b o,b≠X.env.locals→b∉X.fs→b∉ch→s.heap.get? b=some o→H b=none→h'.get? b=some o)
  (slot:∀b o,b≠X.env.locals→b∈X.fs→b∉ch→s.heap.get? b=some o→H b=none→∃sl,h'.get? b=some { o with slots:=sl }) (free:∀b o,b∉ch→s.heap.get? b=some o→H b=none→H' b=none)
  (there:∀b o,b∉ch→s.heap.get? b=some o→∃o',h'.get? b=some o')
  (rZ:∀b xs,H b=some (.tup xs)→H' b=some (.tup xs)) (cL:∀b o u,H b=some (.frz o u)→H' b=some (.frz o u)) (rm:∀b ps,H b=some (.tbl ps)→∃more,H' b=some (.tbl (ps ++ more)))
  (ns:∀m,s.heap.Ns X.env.locals m→h'.Ns X.env.locals m) (jw:hU X.prog X.w H' h') (hg:AllBare g') :
  Inv X pins σ H' { s with heap:=h',gens:=g',drawn:=d',toks:=t' }:=by
 have neL:∀b o,X.s₀.heap.get? b=some o→b≠X.env.locals:=fun b o e=>Nat.ne_of_lt (Nat.lt_of_lt_of_le (Heap.lt_size e) I.ok.above)
 have neC:∀b o,X.s₀.heap.get? b=some o→b∉X.ex→b∉ch:=fun b o e hx hb=>by
  rcases(hch b hb).1 with z | z
  ·exact hx z
  ·exact absurd (Nat.lt_of_lt_of_le (Heap.lt_size e) z) (Nat.lt_irrefl _)
 have cellK:∀x c,X.env.cells.lookup x=some c→∀v,s.heap.IsCell c v→h'.IsCell c v:=fun x c e v ⟨o,ho,hd⟩=>by
  have nch:c∉ch:=fun z=>(hch c z).2.2.1 x c e rfl
  by_cases hc:c∈X.fs
  ·obtain⟨sl,q⟩:=slot c o (I.KR x c e) hc nch ho (I.yi x c e)
   exact⟨_,q,hd⟩
  ·exact⟨o,keep c o (I.KR x c e) hc nch ho (I.yi x c e),hd⟩
 refine⟨I.ok,I.os,hg,⟨fun b o e n hb hx=>?_,fun b o e n hb hx=>?_,fun b o e n hx=>?_,fun b o e hx=>?_,fun b xs e=>rZ b xs (I.base.rZ b xs e),fun b o xs e=>cL b o xs (I.base.cL b o xs e),fun b ps e=>?_⟩,?_,fun x c e=>?_,?_,fun x c e=>?_,fun p hp=>?_,jw,I.len⟩
 ·exact keep b o (neL b o e) hb (neC b o e hx) (I.base.keep b o e n hb hx) (I.base.free b o e n hx)
 ·obtain⟨sl,e1⟩:=I.base.slot b o e n hb hx
  obtain⟨sl',e2⟩:=slot b _ (neL b o e) hb (neC b o e hx) e1 (I.base.free b o e n hx)
  exact⟨sl',e2⟩
 ·obtain⟨o',e1⟩:=I.base.there b o e hx
  exact free b o' (neC b o e hx) e1 (I.base.free b o e n hx)
 ·obtain⟨o',e1⟩:=I.base.there b o e hx
  exact there b o' (neC b o e hx) e1
 ·obtain⟨m1,e1⟩:=I.base.rm b ps e
  obtain⟨m2,e2⟩:=rm b _ e1
  exact⟨m1 ++ m2,by rw[e2,Array.append_assoc]⟩
 ·obtain⟨m,hn,hl⟩:=I.loc
  refine⟨m,ns m hn,fun i x v e1 e2 e3=>?_⟩
  obtain⟨u,r,l⟩:=hl i x v e1 e2 e3
  refine⟨u,r,?_⟩
  rcases l with l | ⟨k,c,e,z⟩
  ·exact .inl l
  ·exact .inr ⟨k,c,e,cellK x c e _ z⟩
 ·obtain⟨v,z⟩:=I.cell x c e
  exact⟨v,cellK x c e v z⟩
 ·obtain⟨m,⟨o,_,_,ho,_⟩,_⟩:=I.loc
  exact free _ o (fun z=>(hch _ z).2.1 rfl) ho I.free
 ·obtain⟨v,o,ho,hd⟩:=I.cell x c e
  exact free c o (fun z=>(hch c z).2.2.1 x c e rfl) ho (I.yi x c e)
 ·obtain⟨e,n,ne,nf,d⟩:=I.pin p hp
  have nch:p.1∉ch:=fun z=>(hch p.1 z).2.2.2 p hp rfl
  exact⟨keep p.1 p.2 ne nf nch e n,free p.1 p.2 nch e n,ne,nf,d⟩
theorem Inv.un {t':Nat} (I:Inv X pins σ H s) (u:Un X.fs [] H H' s.heap h') (jw:hU X.prog X.w H' h'):Inv X pins σ H' { s with heap:=h',toks:=t' }:=by
 obtain⟨m,⟨o,es,ep,ho,r⟩,_⟩:=id I.loc
 obtain⟨sl,hL⟩:=u.any ho I.free (by simp)
 exact I.step (g':=s.gens) (d':=s.drawn) (ch:=[]) (fun _ z=>nomatch z) (fun b o _ hb _ e n=>u.keep b o e n hb (by simp)) (fun b o _ hb _ e n=>u.slot b o e n hb (by simp)) (fun b o _ e n=>u.free b o e n (by simp)) (fun b o _ e=>u.there b o e (by simp)) u.rZ u.cL u.rm (fun m' hm=>by
  obtain⟨o',es',ep',ho',r'⟩:=hm
  rw[ho] at ho';cases ho'
  exact⟨_,es',ep',hL,r'⟩) jw I.bare
theorem Inv.call {g':Array GenState} {t':Nat} {d':Drawn} {ch:List Addr} (I:Inv X pins σ H s) (u:Un (lA X.stack) ch H H' s.heap h') (jw:hU X.prog X.w H' h') (hg:AllBare g')
  (hch:∀b∈ch,(b∈X.ex∨X.s₀.heap.objs.size≤b)∧b≠X.env.locals∧(∀x c,X.env.cells.lookup x=some c→c≠b)∧∀p∈X.pn ++ pins,p.1≠b) :
  Inv X pins σ H' { s with heap:=h',gens:=g',drawn:=d',toks:=t' }:=by
 obtain⟨m,⟨o,es,ep,ho,r⟩,_⟩:=id I.loc
 obtain⟨sl,hL⟩:=u.any ho I.free fun z=>(hch _ z).2.1 rfl
 exact I.step (ch:=ch) hch (fun b o hL hb hc e n=>u.keep b o e n (fun z=>(List.mem_cons.mp (I.uR b z)).elim hL hb) hc) (fun b o _ _ hc e n=>u.any e n hc) (fun b o hc e n=>u.free b o e n hc) (fun b o hc e=>u.there b o e hc) u.rZ u.cL u.rm (fun m' hm=>by
  obtain⟨o',es',ep',ho',r'⟩:=hm
  rw[ho] at ho';cases ho'
  exact⟨_,es',ep',hL,r'⟩) jw hg
theorem Inv.turned {t':Nat} {it:Addr} (I:Inv X pins σ H s) (k:∀b o,b≠it→s.heap.get? b=some o→h'.get? b=some o) (hn:H it=none) (hL:it≠X.env.locals)
  (h1:it∈X.ex∨X.s₀.heap.objs.size≤it) (h2:∀x c,X.env.cells.lookup x=some c→c≠it) (h3:∀p∈X.pn ++ pins,p.1≠it):Inv X pins σ H { s with heap:=h',toks:=t' }:=by
 have nit:∀b u,H b=some u→b≠it:=fun b u e z=>by rw[z,hn] at e;cases e
 refine I.step (g':=s.gens) (d':=s.drawn) (ch:=[it]) (fun b hb=>?_) (fun b o _ _ hc e _=>k b o (fun z=>hc (by simp [z])) e) (fun b o _ _ hc e _=>⟨o.slots,k b o (fun z=>hc (by simp [z])) e⟩) (fun _ _ _ _ n=>n)
  (fun b o hc e=>⟨o,k b o (fun z=>hc (by simp [z])) e⟩) (fun _ _ e=>e) (fun _ _ _ e=>e) (fun b ps e=>⟨#[],by rw[e];simp⟩) (fun m hm=>?_) (fun b u e=>?_) I.bare
 ·have e:b=it:=by simpa using hb
  subst e
  exact⟨h1,hL,h2,h3⟩
 ·obtain⟨o,es,ep,ho,r⟩:=hm
  exact⟨o,es,ep,k _ o (Ne.symm hL) ho,r⟩
 ·refine(I.jw b u e).tG (fun c v hc q=>k c v ?_ q) (fun _ q=>q) fun _ _ q=>q
  rcases hc with z | z
  ·rw[z];exact nit b u e
  ·exact nit c _ z
theorem Inv.tok (I:Inv X pins σ H s) (t:Nat):Inv X pins σ H { s with toks:=t }:=I.un (h':=s.heap) (t':=t) Un.refl I.jw
theorem Inv.kept {t':Nat} (I:Inv X pins σ H s) (k:∀b u,s.heap.get? b=some u→h'.get? b=some u):Inv X pins σ H { s with heap:=h',toks:=t' }:=I.un (Un.kept k) (I.jw.kept k)
theorem Inv.laid {a:Addr} {o:HO} {t':Nat} (I:Inv X pins σ H s) (k:∀b u,s.heap.get? b=some u→h'.get? b=some u) (hp:s.heap.objs.size≤a) (new:xx X.prog X.w (upd H a o) h' a o) :
  Inv X pins σ (upd H a o) { s with heap:=h',toks:=t' }:=I.un (Un.laid k hp (I.jw.fresh hp)) (I.jw.laid k hp new)
theorem Inv.write {x e:Addr} {o:HO} {t':Nat} (I:Inv X pins σ H s) (mu:Yp (H x)) (he:e=x∨H e=some (.own x)) (k:∀b u,b≠e→s.heap.get? b=some u→h'.get? b=some u) (heo:∃u,h'.get? e=some u)
  (new:xx X.prog X.w (upd H x o) h' x o):Inv X pins σ (upd H x o) { s with heap:=h',toks:=t' }:=I.un (Un.write mu he k heo) (I.jw.write mu he k heo new)
theorem Inv.weak {σ':List (Option V)} (I:Inv X pins σ H s) (hl:σ'.length=σ.length) (w:∀(i:Nat) v,σ'[i]?=some (some v)→σ[i]?=some (some v)):Inv X pins σ' H s:=
 ⟨I.ok,I.os,I.bare,I.base,let ⟨m,hn,hl'⟩:=I.loc;⟨m,hn,fun i x v e1 e2 e3=>hl' i x v e1 (w i v e2) e3⟩,I.cell,I.free,I.yi,I.pin,I.jw,hl.trans I.len⟩
theorem Inv.sT {pins':List (Addr × Obj)} (I:Inv X pins σ H s) (h:∀p∈pins',s.heap.get? p.1=some p.2∧H p.1=none∧p.1≠X.env.locals∧p.1∉X.fs∧∀v,p.2.data≠.cell v):Inv X pins' σ H s:=
 ⟨I.ok,I.os,I.bare,I.base,I.loc,I.cell,I.free,I.yi,fun p hp=>(List.mem_append.mp hp).elim (fun z=>I.pin p (List.mem_append_left _ z)) (h p),I.jw,I.len⟩
theorem mD {N:List Str} (hN:N.Nodup) {i j:Nat} {x:Str} (a:N[i]?=some x) (b:N[j]?=some x):i=j:=by
 obtain⟨h1,e1⟩:=List.getElem?_eq_some_iff.mp a
 obtain⟨h2,e2⟩:=List.getElem?_eq_some_iff.mp b
 exact(List.getElem_inj hN).mp (e1.trans e2.symm)
theorem ZC {M:Model} {A:Around} {E:Value→Shared→Prop} {i:Nat} {x:Str} {v:V} {u:Value} {Q:Unit→Shared→Prop} (I:Inv X pins σ H s) (hN:X.N.Nodup) (hi:X.N[i]?=some x) (hx:Loc X.env.scope x) (r:RelV v u)
  (h:∀s',Inv X pins (σ.set i (some v)) H s'→(∃a,Heap.SameBut a s.heap s'.heap∧(a=X.env.locals∨X.env.cells.lookup x=some a))→Q () s') (hf:X.fn x=true∨X.env.scope.names.lookup x=some .local:=by first | exact .inl rfl | exact .inr rfl | assumption):wpAny M A (storeName X.env x u) Q E s:=by
 obtain⟨m,hn,hl⟩:=id I.loc
 have hcls:(X.env.scope.kind == .class || (X.env.scope.kind == .module && X.env.locals != X.env.globals))=false:=by rw[I.ok.kind];rfl
 have hiσ:i < σ.length:=by rw[I.len];exact(List.getElem?_eq_some_iff.mp hi).1
 have KR:=I.KR
 have tracked:∀{a:Addr} {h':Heap},(∃o,s.heap.get? a=some o∧H a=none)→Heap.SameBut a s.heap h'→hU X.prog X.w H h':=fun {a h'} ha hs b ob e=>by
  obtain⟨_,_,hfree⟩:=ha
  refine(I.jw b ob e).tG (fun c w' hc q=>(hs.2 c ?_).trans q) (fun _ q=>q) fun _ _ q=>q
  rintro rfl
  rcases hc with rfl | hc
  ·rw[hfree] at e;cases e
  ·rw[hfree] at hc;cases hc
 rcases hx with hk | hk
 ·refine wpAny_storeName_local hk hn (fun h' hn' hs=>?_) hcls
  obtain⟨oL,_,_,hoL,_⟩:=id hn
  refine h _ ⟨I.ok,I.os,I.bare,⟨fun b o e n hb hx=>?_,fun b o e n hb hx=>?_,I.base.free,fun b o e hx=>?_,I.base.rZ,I.base.cL,I.base.rm⟩,⟨_,hn',fun j y v' e1 e2 e3=>?_⟩,fun y c e=>?_,I.free,I.yi,fun p hp=>?_,tracked ⟨oL,hoL,I.free⟩ hs,by simpa using I.len⟩ ⟨_,hs,.inl rfl⟩
  ·exact(hs.2 b (Nat.ne_of_lt (Nat.lt_of_lt_of_le (Heap.lt_size e) I.ok.above))).trans (I.base.keep b o e n hb hx)
  ·obtain⟨sl,e1⟩:=I.base.slot b o e n hb hx
   exact⟨sl,(hs.2 b (Nat.ne_of_lt (Nat.lt_of_lt_of_le (Heap.lt_size e) I.ok.above))).trans e1⟩
  ·obtain⟨o',e1⟩:=I.base.there b o e hx
   exact⟨o',(hs.2 b (Nat.ne_of_lt (Nat.lt_of_lt_of_le (Heap.lt_size e) I.ok.above))).trans e1⟩
  ·by_cases hj:j=i
   ·subst hj
    rw[hi] at e1;cases e1
    rw[List.getElem?_set_self hiσ] at e2
    cases e2
    exact⟨u,r,.inl ⟨hk,by simp⟩⟩
   ·rw[List.getElem?_set_ne (Ne.symm hj)] at e2
    obtain⟨u',r',q⟩:=hl j y v' e1 e2 e3
    refine⟨u',r',?_⟩
    rcases q with ⟨k,e⟩ | ⟨k,c,e,z⟩
    ·refine .inl ⟨k,?_⟩
     have:y≠x:=fun e=>hj (mD hN e1 (e▸hi))
     simp [this,e]
    ·exact .inr ⟨k,c,e,z.sameBut hs (KR y c e)⟩
  ·obtain⟨w',z⟩:=I.cell y c e
   exact⟨w',z.sameBut hs (KR y c e)⟩
  ·obtain⟨e,n,ne,nf,d⟩:=I.pin p hp
   exact⟨(hs.2 p.1 ne).trans e,n,ne,nf,d⟩
 ·have hfn:X.fn x=true:=by
   rcases hf with z | z
   ·exact z
   ·rw[z] at hk;cases hk
  obtain⟨c,hc⟩:=I.ok.has x (.inl hk)
  obtain⟨w',z⟩:=I.cell x c hc
  refine wpAny_storeName_cell I.ok.kind hk hc z (fun h' hc' hs=>?_)
  obtain⟨oc,hoc,hocd⟩:=id z
  refine h { s with heap:=h' } ⟨I.ok,I.os,I.bare,⟨fun b o e n hb hx=>?_,fun b o e n hb hx=>?_,I.base.free,fun b o e hx=>?_,I.base.rZ,I.base.cL,I.base.rm⟩,⟨m,hn.sameBut hs (Ne.symm (KR x c hc)),fun j y v' e1 e2 e3=>?_⟩,fun y c' e=>?_,I.free,I.yi,fun p hp=>?_,tracked ⟨oc,hoc,I.yi x c hc⟩ hs,by simpa using I.len⟩ ⟨c,hs,.inr hc⟩
  ·exact(hs.2 b (Nat.ne_of_lt (Nat.lt_of_lt_of_le (Heap.lt_size e) (I.ok.Yk x c hfn hc)))).trans (I.base.keep b o e n hb hx)
  ·obtain⟨sl,e1⟩:=I.base.slot b o e n hb hx
   exact⟨sl,(hs.2 b (Nat.ne_of_lt (Nat.lt_of_lt_of_le (Heap.lt_size e) (I.ok.Yk x c hfn hc)))).trans e1⟩
  ·obtain⟨o',e1⟩:=I.base.there b o e hx
   exact⟨o',(hs.2 b (Nat.ne_of_lt (Nat.lt_of_lt_of_le (Heap.lt_size e) (I.ok.Yk x c hfn hc)))).trans e1⟩
  ·by_cases hj:j=i
   ·subst hj
    rw[hi] at e1;cases e1
    rw[List.getElem?_set_self hiσ] at e2
    cases e2
    exact⟨u,r,.inr ⟨.inl hk,c,hc,hc'⟩⟩
   ·rw[List.getElem?_set_ne (Ne.symm hj)] at e2
    obtain⟨u',r',q⟩:=hl j y v' e1 e2 e3
    refine⟨u',r',?_⟩
    rcases q with q | ⟨k,c',e,z'⟩
    ·exact .inl q
    ·refine .inr ⟨k,c',e,z'.sameBut hs ?_⟩
     rintro rfl
     exact hj (mD hN e1 (I.ok.inj _ _ _ e hc▸hi))
  ·by_cases hcc:c'=c
   ·subst hcc;exact⟨_,hc'⟩
   ·obtain⟨w2,z2⟩:=I.cell y c' e
    exact⟨w2,z2.sameBut hs hcc⟩
  ·obtain⟨e,n,ne,nf,d⟩:=I.pin p hp
   refine⟨(hs.2 p.1 ?_).trans e,n,ne,nf,d⟩
   intro q
   rw[q,hoc] at e
   have q':oc=p.2:=Option.some.inj e
   exact d w' (by rw[←q'];exact hocd)
theorem pP {M:Model} {A:Around} {E:Value→Shared→Prop} {i:Nat} {x:Str} {v:V} {u:Value} {Q:Unit→Shared→Prop} (I:Inv X pins σ H s) (hN:X.N.Nodup) (hi:X.N[i]?=some x) (hx:Loc X.env.scope x) (r:RelV v u)
  (h:∀s',Inv X pins (σ.set i (some v)) H s'→Q () s') (hf:X.fn x=true∨X.env.scope.names.lookup x=some .local:=by first | exact .inl rfl | exact .inr rfl | assumption):wpAny M A (storeName X.env x u) Q E s:=
 ZC I hN hi hx r (fun s' I' _=>h s' I') hf
theorem Inv.tO {s':Shared} {ch:List Addr} (I:Inv X pins σ H s) (ho:s'.os=s.os) (u:Un (lA X.stack) ch H H' s.heap s'.heap) (jw:hU X.prog X.w H' s'.heap) (hg:AllBare s'.gens)
  (hch:∀b∈ch,(b∈X.ex∨X.s₀.heap.objs.size≤b)∧b≠X.env.locals∧(∀x c,X.env.cells.lookup x=some c→c≠b)∧∀p∈X.pn ++ pins,p.1≠b):Inv X pins σ H' s':=by
 obtain⟨h',g',d',t',o'⟩:=s'
 have e:o'=s.os:=ho
 subst e
 exact I.call (g':=g') (t':=t') (d':=d') u jw hg hch
end
noncomputable abbrev XK:=Value→Option Addr→Hp→Prop
noncomputable abbrev St:=List (Option V)
noncomputable abbrev VK:=V→Hp→Prop
noncomputable abbrev TE:=St→Hp→VK→Prop
noncomputable abbrev TT:=St→Hp→(Bool→Hp→Prop)→Prop
noncomputable abbrev TA:=St→Hp→(List V→Hp→Prop)→Prop
structure Ends where
 nx:St→Hp→Prop
 rt:VK
 bk:St→Hp→Prop:=fun _ _=>False
 ct:St→Hp→Prop:=fun _ _=>False
noncomputable abbrev TS:=Ends→St→Hp→Prop
noncomputable def EP (X:Cx) (pins:List (Addr × Obj)) (σ:St) (Q:VK) (u:Value) (s':Shared):Prop:=∃v H',Inv X pins σ H' s'∧RelV v u∧Q v H'
noncomputable def TP (X:Cx) (pins:List (Addr × Obj)) (σ:St) (Q:Bool→Hp→Prop) (b:Bool) (s':Shared):Prop:=∃H',Inv X pins σ H' s'∧Q b H'
noncomputable def AP (X:Cx) (pins:List (Addr × Obj)) (σ:St) (Q:List V→Hp→Prop) (us:List Value) (s':Shared):Prop:=∃vs H',Inv X pins σ H' s'∧Vals vs us∧Q vs H'
noncomputable def SP (X:Cx) (pins:List (Addr × Obj)) (D:Ends) (f:Flow) (s':Shared):Prop:=
 match f with
 | .next=>∃σ' H',Inv X pins σ' H' s'∧D.nx σ' H'
 | .brk=>∃σ' H',Inv X pins σ' H' s'∧D.bk σ' H'
 | .cont=>∃σ' H',Inv X pins σ' H' s'∧D.ct σ' H'
 | .ret u=>∃v σ' H',Inv X pins σ' H' s'∧RelV v u∧D.rt v H'
noncomputable def PE (X:Cx) (e:Expr) (t:TE):Prop:=
 ∀(pins:List (Addr × Obj)) (s:Shared) (σ:St) (H:Hp) (Q:VK),Inv X pins σ H s→t σ H Q→wpAny (model X.prog X.w) X.A (eval e X.env) (EP X pins σ Q) X.xe s
noncomputable def PT (X:Cx) (e:Expr) (t:TT):Prop:=
 ∀(pins:List (Addr × Obj)) (s:Shared) (σ:St) (H:Hp) (Q:Bool→Hp→Prop),Inv X pins σ H s→t σ H Q→wpAny (model X.prog X.w) X.A (isTrue e X.env (eval e X.env)) (TP X pins σ Q) X.xe s
noncomputable def PW (X:Cx) (e:Expr) (t:TT):Prop:=
 ∀(whole:Sem Value) (pins:List (Addr × Obj)) (s:Shared) (σ:St) (H:Hp) (Q:Bool→Hp→Prop),Inv X pins σ H s→t σ H Q→wpAny (model X.prog X.w) X.A (isTrue e X.env whole) (TP X pins σ Q) X.xe s
theorem PW.pt {X:Cx} {e:Expr} {t:TT} (h:PW X e t):PT X e t:=h _
noncomputable def PA (X:Cx) (es:List Expr) (t:TA):Prop:=
 ∀(pos:Pos) (pins:List (Addr × Obj)) (s:Shared) (σ:St) (H:Hp) (Q:List V→Hp→Prop),Inv X pins σ H s→t σ H Q→wpAny (model X.prog X.w) X.A (spliced (backTo pos (starEach es X.env))) (AP X pins σ Q) X.xe s
noncomputable def PS (X:Cx) (st:Stmt) (t:TS):Prop:=
 ∀(pins:List (Addr × Obj)) (s:Shared) (σ:St) (H:Hp) (D:Ends),Inv X pins σ H s→t D σ H→wpAny (model X.prog X.w) X.A (exec st X.env) (SP X pins D) X.xe s
noncomputable def ij (X:Cx) (st:List Stmt) (t:TS):Prop:=
 ∀(pins:List (Addr × Obj)) (s:Shared) (σ:St) (H:Hp) (D:Ends),Inv X pins σ H s→t D σ H→wpAny (model X.prog X.w) X.A (execs st X.env) (SP X pins D) X.xe s
theorem xy {α:Type} {t:Sem α} {Q Q':α→Shared→Prop} {M:Model} {A:Around} {E:Value→Shared→Prop} {s:Shared} (h:wpAny M A t Q E s) (hQ:∀a s,Q a s→Q' a s):wpAny M A t Q' E s:=wpAny_mono h hQ fun _ _ x=>x
end L2
namespace L2
open PySem PySem.Spec PyProof.Rows
section
variable {X:Cx}
theorem bin {a b:Expr} {ta tb:TE} (ha:PE X a ta) (hb:PE X b tb) {pins:List (Addr × Obj)} {s:Shared} {σ:St} {H:Hp} {R:V→V→Hp→Prop} (I:Inv X pins σ H s) (h:ta σ H fun x H1=>tb σ H1 fun y H2=>R x y H2)
  {α:Type} {Q:α→Shared→Prop} {f:Value→Value→Sem α}
  (hf:∀v u s2 x y H2,Inv X pins σ H2 s2→RelV x v→RelV y u→R x y H2→wpAny (model X.prog X.w) X.A (f v u) Q X.xe s2) :
  wpAny (model X.prog X.w) X.A (eval a X.env) (fun v s₁=>wpAny (model X.prog X.w) X.A (eval b X.env) (fun u s₂=>wpAny (model X.prog X.w) X.A (f v u) Q X.xe s₂) X.xe s₁) X.xe s:=by
 refine xy (ha pins s σ H _ I h) fun v s1 ⟨x,H1,I1,r1,q1⟩=>?_
 refine xy (hb pins s1 σ H1 _ I1 q1) fun u s2 ⟨y,H2,I2,r2,q2⟩=>?_
 exact hf v u s2 x y H2 I2 r1 r2 q2
noncomputable def GV (i:Nat):TE:=fun σ H Q=>∃v,σ[i]?=some (some v)∧Q v H
noncomputable def tC (v:V):TE:=fun _ H Q=>Q v H
theorem WQ {i:Nat} {x:Str} {pos:Pos} (hN:X.N[i]?=some x) (hv:GC X.env.scope x) (hd:(x == ("__debug__" : Str))=false:=by decide) (hcd:(x == ("__classdict__" : Str))=false:=by decide):PE X (.Name x pos) (GV i):=by
 intro pins s σ H Q I h
 obtain⟨v,e,h⟩:=h
 obtain⟨m,hn,hl⟩:=I.loc
 obtain⟨u,r,l⟩:=hl i x v hN e hv
 have fin:EP X pins σ Q u s:=⟨v,H,I,r,h⟩
 rcases l with ⟨hk,hm⟩ | ⟨hk,c,hc,hcell⟩
 ·exact wpAny_Name (wpAny_loadName_local I.ok.kind hk hn hm fin) hd
 ·rcases hk with hk | hk
  ·exact wpAny_Name (wpAny_loadName_cell I.ok.kind hk hc hcell fin) hd
  ·exact wpAny_Name (wpAny_loadName_free I.ok.kind hk hc hcell fin hcd) hd
theorem z9 {i j pos}:PE X (.Constant (.int i) j pos) (tC (.int i)):=fun _ _ _ H _ I h=>wpAny_Constant_int ⟨.int i,H,I.tok _,⟨_,rfl⟩,h⟩
theorem wF {b j pos}:PE X (.Constant (.bool b) j pos) (tC (.bl b)):=fun _ _ _ H _ I h=>Constant_bool ⟨.bl b,H,I,rfl,h⟩
theorem vY {j pos}:PE X (.Constant .none j pos) (tC .non):=fun _ _ _ H _ I h=>Constant_none ⟨.non,H,I,rfl,h⟩
theorem qq {x j pos}:PE X (.Constant (.str x) j pos) (tC (.str x)):=fun _ _ _ H _ I h=>Calls.Constant_str ⟨.str x,H,I.tok _,⟨_,rfl⟩,h⟩
noncomputable def Gl (X:Cx) (x:Str):Prop:=X.env.kindOf x=some .globalImplicit
theorem gb {E:Value→Shared→Prop} {pins:List (Addr × Obj)} {s:Shared} {σ:St} {H:Hp} {x:Str} {u:Value} {pos:Pos} {Q:Value→Shared→Prop} (I:Inv X pins σ H s) (hg:Gl X x) (hm:X.mg x=some u) (h:Q u s)
  (hd:(x == ("__debug__" : Str))=false:=by decide):wpAny (model X.prog X.w) X.A (eval (.Name x pos) X.env) Q E s:=
 Calls.Name_function_global I.ok.kind hg (Calls.loadGlobal_global (by rw[I.ok.glob];exact I.mod.glob.keeps I.bk) hm h) hd
theorem df {E:Value→Shared→Prop} {pins:List (Addr × Obj)} {s:Shared} {σ:St} {H:Hp} {x:Str} {u:Value} {pos:Pos} {Q:Value→Shared→Prop} (I:Inv X pins σ H s) (hg:Gl X x) (hm:X.mg x=none) (hv:bootBuiltins x=some u) (h:Q u s)
  (hn:x≠"__name__":=by decide) (hd:(x == ("__debug__" : Str))=false:=by decide):wpAny (model X.prog X.w) X.A (eval (.Name x pos) X.env) Q E s:=by
 obtain⟨mb,h1,h2⟩:=I.mod.blt
 exact Calls.Name_function_global I.ok.kind hg (Calls.loadGlobal_builtin (by rw[I.ok.glob];exact I.mod.glob.keeps I.bk) hm (by rw[I.ok.blt];exact h1.keeps I.bk) ((h2 x hn).trans hv) h) hd
theorem jm {x:Str} {v:V} {u:Value} {pos:Pos} (hg:Gl X x) (hm:X.mg x=some u) (r:RelV v u) (hd:(x == ("__debug__" : Str))=false:=by decide):PE X (.Name x pos) (tC v):=
 fun _ _ _ H _ I h=>gb I hg hm ⟨v,H,I,r,h⟩ hd
theorem sU {x:Str} {v:V} {u:Value} {pos:Pos} (hg:Gl X x) (hm:X.mg x=none) (hv:bootBuiltins x=some u) (r:RelV v u) (hn:x≠"__name__":=by decide) (hd:(x == ("__debug__" : Str))=false:=by decide):PE X (.Name x pos) (tC v):=
 fun _ _ _ H _ I h=>df I hg hm hv ⟨v,H,I,r,h⟩ hn hd
noncomputable def G3 (ta tb:TE) (k:Int→Int→Hp→Prop):St→Hp→Prop:=fun σ H=>ta σ H fun x H1=>tb σ H1 fun y H2=>∃i j,x=.int i∧y=.int j∧k i j H2
noncomputable def PF (ta tb:TE):TE:=fun σ H Q=>G3 ta tb (fun i j H2=>Q (.int (i + j)) H2) σ H
noncomputable def P5 (ta tb:TE):TE:=fun σ H Q=>G3 ta tb (fun i j H2=>Q (.int (i - j)) H2) σ H
noncomputable def PN (ta tb:TE):TE:=fun σ H Q=>G3 ta tb (fun i j H2=>(-(2 ^ 64) < i∧i < 2 ^ 64)∧Q (.int (i * j)) H2) σ H
variable {a b:Expr} {ta tb:TE} {pos:Pos}
noncomputable def PC (X:Cx) (op:CmpOp) (a b:Expr) (t:TE):Prop:=
 ∀(pins:List (Addr × Obj)) (s:Shared) (σ:St) (H:Hp) (Q:VK),Inv X pins σ H s→t σ H Q→
  wpAny (model X.prog X.w) X.A (eval a X.env) (fun v s₁=>wpAny (model X.prog X.w) X.A (eval b X.env) (fun u s₂=>wpAny (model X.prog X.w) X.A (compareOp op v u) (EP X pins σ Q) X.xe s₂) X.xe s₁) X.xe s
noncomputable def ZU (p:Int→Int→Bool) (ta tb:TE):TE:=fun σ H Q=>G3 ta tb (fun i j H2=>Q (.bl (p i j)) H2) σ H
noncomputable abbrev Fc:TE→TE→TE:=ZU fun i j=>decide (i < j)
noncomputable abbrev Fd:TE→TE→TE:=ZU fun i j=>decide (i≤j)
noncomputable abbrev Fp:TE→TE→TE:=ZU fun i j=>decide (j < i)
noncomputable abbrev Fb:TE→TE→TE:=ZU fun i j=>decide (j≤i)
noncomputable abbrev PR:TE→TE→TE:=ZU fun i j=>decide (i=j)
noncomputable abbrev P0:TE→TE→TE:=ZU fun i j=>!decide (i=j)
noncomputable def PL (ta:TE):TE:=fun σ H Q=>ta σ H fun x H1=>Q (.bl (decide (x=.non))) H1
noncomputable def B2 (ta:TE):TE:=fun σ H Q=>ta σ H fun x H1=>Q (.bl (!decide (x=.non))) H1
noncomputable def tB (t:TE):TT:=fun σ H Q=>t σ H fun x H1=>∃c,x=.bl c∧Q c H1
theorem Jv {op:CmpOp} {t:TE} (h:PC X op a b t) (h1:behindInMarks op b=false:=by first | exact nobehind _ (by decide) (by decide) | rfl):PT X (.Compare a [op] [b] pos) (tB t):=by
 intro pins s σ H Q I hw
 refine wpAny_isTrue_Compare1 (xy (h pins s σ H _ I hw) fun v s1 h1=>xy h1 fun u s2 h2=>xy h2 fun c s3 ⟨x,H1,I1,r1,q1⟩=>?_) h1
 obtain⟨d,rfl,q⟩:=q1
 cases r1
 exact wpAny_truthy_bool ⟨H1,I1,q⟩
theorem j6 {e:Expr} {t:TE} (h:PE X e t) (he:∀whole,isTrue e X.env whole=(do let v ←whole;standAt e.pos;holding [v] (truthy v)):=by intro _;rfl):PT X e (tB t):=by
 intro pins s σ H Q I hw
 refine isTrue_plain (xy (h pins s σ H _ I hw) fun v s1 ⟨x,H1,I1,r1,q1⟩=>?_) (he _)
 obtain⟨d,rfl,q⟩:=q1
 cases r1
 exact wpAny_truthy_bool ⟨H1,I1,q⟩
variable {tA tB':TT} {rest:List Expr}
noncomputable def Bm (t u:TT):TT:=fun σ H Q=>t σ H fun c H1=>if c=true then u σ H1 Q else Q false H1
noncomputable def P1 (t u:TT):TT:=fun σ H Q=>t σ H fun c H1=>if c=true then Q true H1 else u σ H1 Q
noncomputable def BJ (t:TT):TT:=fun σ H Q=>t σ H fun c H1=>Q (!c) H1
theorem yh (ha:PT X a tA):PW X (.BoolOp .And [a] pos) tA:=by
 intro wh pins s σ H Q I h
 refine isTrue_and (xy (ha pins s σ H Q I h) fun c s1 e=>?_)
 cases c with
 | true=>exact isTrue_and_nil e
 | false=>exact e
theorem vI (ha:PT X a tA):PW X (.BoolOp .Or [a] pos) tA:=by
 intro wh pins s σ H Q I h
 refine isTrue_or (xy (ha pins s σ H Q I h) fun c s1 e=>?_)
 cases c with
 | false=>exact isTrue_or_nil e
 | true=>exact e
theorem gX (ha:PT X a tA) (hb:PW X (.BoolOp .And (b :: rest) pos) tB'):PW X (.BoolOp .And (a :: b :: rest) pos) (Bm tA tB'):=by
 intro wh pins s σ H Q I h
 refine isTrue_and (xy (ha pins s σ H _ I h) fun c s1 ⟨H1,I1,q1⟩=>?_)
 cases c with
 | true=>exact hb wh pins s1 σ H1 Q I1 q1
 | false=>exact⟨H1,I1,q1⟩
theorem vU (ha:PT X a tA) (hb:PW X (.BoolOp .Or (b :: rest) pos) tB'):PW X (.BoolOp .Or (a :: b :: rest) pos) (P1 tA tB'):=by
 intro wh pins s σ H Q I h
 refine isTrue_or (xy (ha pins s σ H _ I h) fun c s1 ⟨H1,I1,q1⟩=>?_)
 cases c with
 | true=>exact⟨H1,I1,q1⟩
 | false=>exact hb wh pins s1 σ H1 Q I1 q1
theorem yB (ha:PT X a tA):PT X (.UnaryOp .Not a pos) (BJ tA):=by
 intro pins s σ H Q I h
 exact isTrue_not (ha pins s σ H (fun c H1=>Q (!c) H1) I h)
noncomputable def Gi (ta tb:TE):TE:=fun σ H Q=>ta σ H fun x H1=>∃c,x=.bl c∧if c=true then tb σ H1 Q else Q (.bl false) H1
noncomputable def BX (ta tb:TE):TE:=fun σ H Q=>ta σ H fun x H1=>∃c,x=.bl c∧if c=true then Q (.bl true) H1 else tb σ H1 Q
noncomputable def GQ (ta:TE):TE:=fun σ H Q=>ta σ H fun x H1=>∃c,x=.bl c∧Q (.bl (!c)) H1
theorem sR {op} {t:TE} (h:PE X a t):PE X (.BoolOp op [a] pos) t:=fun pins s σ H Q I hw=>BoolOp_one (h pins s σ H Q I hw)
theorem sF (ha:PE X a ta) (hb:PE X (.BoolOp .And (b :: rest) pos) tb):PE X (.BoolOp .And (a :: b :: rest) pos) (Gi ta tb):=by
 intro pins s σ H Q I h
 refine BoolOp_and (xy (ha pins s σ H _ I h) fun v s1 ⟨x,H1,I1,r1,q1⟩=>?_)
 obtain⟨c,rfl,q1⟩:=q1
 cases r1
 refine wpAny_truthy_bool ?_
 cases c with
 | true=>exact hb pins s1 σ H1 Q I1 q1
 | false=>exact⟨.bl false,H1,I1,rfl,q1⟩
theorem Y9 (ha:PE X a ta) (hb:PE X (.BoolOp .Or (b :: rest) pos) tb):PE X (.BoolOp .Or (a :: b :: rest) pos) (BX ta tb):=by
 intro pins s σ H Q I h
 refine BoolOp_or (xy (ha pins s σ H _ I h) fun v s1 ⟨x,H1,I1,r1,q1⟩=>?_)
 obtain⟨c,rfl,q1⟩:=q1
 cases r1
 refine wpAny_truthy_bool ?_
 cases c with
 | false=>exact hb pins s1 σ H1 Q I1 q1
 | true=>exact⟨.bl true,H1,I1,rfl,q1⟩
theorem Wa (ha:PE X a ta):PE X (.UnaryOp .Not a pos) (GQ ta):=by
 intro pins s σ H Q I h
 refine UnaryOp_ (xy (ha pins s σ H _ I h) fun v s1 ⟨x,H1,I1,r1,q1⟩=>?_)
 obtain⟨c,rfl,q1⟩:=q1
 cases r1
 exact not_of (wpAny_truthy_bool ⟨.bl (!c),H1,I1,rfl,q1⟩)
noncomputable def Ff (t:TT) (ta tb:TE):TE:=fun σ H Q=>t σ H fun c H1=>if c=true then ta σ H1 Q else tb σ H1 Q
end
end L2
namespace L2
open PySem PySem.Spec PyProof.Rows
noncomputable def jx (K:PySem.W.Frag) (H:Hp) (a:Addr) (xs:List V):Prop:=
 Rd H a (.lst xs)∨
  ∃(o:Obj) (its:Array Value) (n:Nat),K.lookup a=some o∧o.cls=.type "list"∧o.dict=none∧o.data=.seq its n∧its.size≤sizeLine∧Vals xs its.toList
noncomputable def fz (K:PySem.W.Frag) (H:Hp) (a:Addr) (xs:List V):Prop:=
 Rd H a (.tup xs)∨
  ∃(o:Obj) (its:Array Value) (n:Nat),K.lookup a=some o∧o.cls=.type "tuple"∧o.data=.seq its n∧its.size≤sizeLine∧Vals xs its.toList
noncomputable def Hb:Value→Option V
 | .none=>some .non
 | .bool b=>some (.bl b)
 | .int i _=>some (.int i)
 | .str x _=>some (.str x)
 | .bytes b _=>some (.byt b)
 | .float b _=>some (.flt b)
 | .ref a=>some (.ref a)
 | .type n=>some (.ty n)
 | _=>none
theorem RelV.abs {x:V} {u:Value} (r:RelV x u):Hb u=some x:=by
 cases x with
 | non=>cases r;rfl
 | bl _=>cases r;rfl
 | int _=>obtain⟨t,rfl⟩:=r;rfl
 | str _=>obtain⟨t,rfl⟩:=r;rfl
 | byt _=>obtain⟨t,rfl⟩:=r;rfl
 | flt _=>obtain⟨t,rfl⟩:=r;rfl
 | ref _=>cases r;rfl
 | ty _=>cases r;rfl
theorem RelV.inj {x y:V} {u:Value} (r:RelV x u) (q:RelV y u):x=y:=Option.some.inj (r.abs.symm.trans q.abs)
theorem Vals.inj:∀{xs ys:List V} {us:List Value},Vals xs us→Vals ys us→xs=ys
 | _,_,_,.nil,.nil=>rfl
 | _,_,_,.cons r t,.cons r' t'=>by rw[r.inj r',Vals.inj t t']
section
variable {X:Cx} {pins:List (Addr × Obj)} {σ:St} {H:Hp} {s:Shared} {a:Addr} {xs ys:List V}
theorem jx.of {K:PySem.W.Frag} (h:H a=some (.lst xs)):jx K H a xs:=.inl (.inl h)
theorem fz.of {K:PySem.W.Frag} (h:H a=some (.tup xs)):fz K H a xs:=.inl (.inl h)
theorem Inv.list (I:Inv X pins σ H s) (h:jx X.K H a xs):∃its:List Value,Vals xs its∧PlainL s.heap a its.toArray∧xs.length≤sizeLine:=by
 rcases h with h | ⟨o,its,n,hk,hc,hd,hs,hz,r⟩
 ·obtain⟨z,its,n,r,e⟩:=h.ok I.jw
  exact⟨its,r,⟨_,n,e,rfl,rfl,rfl⟩,z⟩
 ·refine⟨its.toList,r,⟨o,n,I.gB a o hk,hc,hd,by simpa using hs⟩,?_⟩
  have e:=r.length
  simp only[Array.length_toList] at e
  omega
theorem Inv.tuple (I:Inv X pins σ H s) (h:fz X.K H a xs):∃its:List Value,Vals xs its∧IsTup s.heap a its.toArray∧xs.length≤sizeLine:=by
 rcases h with h | ⟨o,its,n,hk,hc,hs,hz,r⟩
 ·obtain⟨z,its,r,p⟩:=h.ok I.jw
  exact⟨its,r,p,z⟩
 ·refine⟨its.toList,r,⟨o,I.gB a o hk,hc,n,by simpa using hs⟩,?_⟩
  have e:=r.length
  simp only[Array.length_toList] at e
  omega
theorem Inv.cE (I:Inv X pins σ H s) (h:jx X.K H a xs) (h':jx X.K H a ys):xs=ys:=by
 obtain⟨its,r,⟨o,n,e,_,_,d⟩,_⟩:=I.list h
 obtain⟨its',r',⟨o',n',e',_,_,d'⟩,_⟩:=I.list h'
 rw[e] at e';cases e'
 rw[d] at d'
 injection d' with d1 _
 have:its=its':=by simpa using congrArg Array.toList d1
 subst this
 exact r.inj r'
end
noncomputable abbrev Cx.rQ (X:Cx) (E:Value→Shared→Prop):Cx:={ X with xe:=E }
noncomputable abbrev Cx.GO (X:Cx):Cx:=X.rQ fun _ _=>False
theorem Cx.Ok.rQ {X:Cx} (ok:X.Ok) (E:Value→Shared→Prop):(X.rQ E).Ok:=
 ⟨ok.mod,ok.kind,ok.glob,ok.blt,ok.above,ok.inj,ok.has,ok.Yk,ok.hd,ok.frames,ok.Gs,ok.VA,ok.bs,ok.aI,ok.iH,ok.ib,ok.dw,ok.KO⟩
theorem Cx.Ok.pF {X:Cx} {E:Value→Shared→Prop} (ok:(X.rQ E).Ok):X.Ok:=
 ⟨ok.mod,ok.kind,ok.glob,ok.blt,ok.above,ok.inj,ok.has,ok.Yk,ok.hd,ok.frames,ok.Gs,ok.VA,ok.bs,ok.aI,ok.iH,ok.ib,ok.dw,ok.KO⟩
section
variable {X:Cx} {pins:List (Addr × Obj)} {σ:St} {H:Hp} {s:Shared} {E:Value→Shared→Prop}
theorem Inv.rQ (I:Inv X pins σ H s) (E:Value→Shared→Prop):Inv (X.rQ E) pins σ H s:=⟨I.ok.rQ E,I.os,I.bare,I.base,I.loc,I.cell,I.free,I.yi,I.pin,I.jw,I.len⟩
theorem Inv.pF (I:Inv (X.rQ E) pins σ H s):Inv X pins σ H s:=⟨I.ok.pF,I.os,I.bare,I.base,I.loc,I.cell,I.free,I.yi,I.pin,I.jw,I.len⟩
theorem SP.pF {D:Ends} {f:Flow} {s':Shared} (h:SP (X.rQ E) pins D f s'):SP X pins D f s':=by
 cases f with
 | next=>obtain⟨σ',H',I,q⟩:=h;exact⟨σ',H',I.pF,q⟩
 | brk=>obtain⟨σ',H',I,q⟩:=h;exact⟨σ',H',I.pF,q⟩
 | cont=>obtain⟨σ',H',I,q⟩:=h;exact⟨σ',H',I.pF,q⟩
 | ret u=>obtain⟨v,σ',H',I,r,q⟩:=h;exact⟨v,σ',H',I.pF,r,q⟩
theorem ij.GO {st:List Stmt} {t:TS} (h:ij X.GO st t):ij X st t:=fun pins s σ H D I hw=>
 wpAny_mono (h pins s σ H D (I.rQ _) hw) (fun _ _ q=>q.pF) fun _ _ z=>False.elim z
end
section
variable {X:Cx} {st:Stmt} {rest:List Stmt} {t u:TS} {e:Expr} {te:TE} {pos:Pos}
noncomputable def GZ:TS:=fun D σ H=>D.nx σ H
noncomputable def BV (t u:TS):TS:=fun D σ H=>t { D with nx:=u D } σ H
theorem qo:ij X [] GZ:=fun _ _ σ H _ I h=>wpAny_execs_nil ⟨σ,H,I,h⟩
theorem z8 (h1:PS X st t) (h2:ij X rest u):ij X (st :: rest) (BV t u):=by
 intro pins s σ H D I h
 refine wpAny_execs_cons (xy (h1 pins s σ H { D with nx:=u D } I h) fun f s1 q=>?_)
 cases f with
 | next=>
  obtain⟨σ',H',I',q⟩:=q
  exact h2 pins s1 σ' H' D I' q
 | ret v=>exact q
 | brk=>exact q
 | cont=>exact q
theorem qx (h1:PS X st t):ij X [st] t:=by
 intro pins s σ H D I h
 refine wpAny_execs_cons (xy (h1 pins s σ H D I h) fun f s1 q=>?_)
 cases f with
 | next=>exact wpAny_execs_nil q
 | ret v=>exact q
 | brk=>exact q
 | cont=>exact q
noncomputable def WA:TS:=fun D σ H=>D.bk σ H
noncomputable def BE:TS:=fun D σ H=>D.ct σ H
theorem Jk:PS X (.Break pos) WA:=fun _ _ σ H _ I h=>wpAny_Break ⟨σ,H,I,h⟩
theorem Inv.quiet {pins:List (Addr × Obj)} {σ:St} {H:Hp} {s:Shared} (I:Inv X pins σ H s):interactive X.env=false:=by simp [interactive,I.ok.kind]
noncomputable def Ga (te:TE):TS:=fun D σ H=>te σ H fun _ H1=>D.nx σ H1
theorem kK (he:PE X e te) (hs:swapsWith e none pos.line X.env=pure false:=by rfl):PS X (.Expr e pos) (Ga te):=by
 intro pins s σ H D I h
 exact wpAny_Expr_any (xy (he pins s σ H _ I h) fun v s1 ⟨x,H1,I1,r1,q1⟩=>⟨σ,H1,I1,q1⟩) I.quiet hs
noncomputable def BK (te:TE):TS:=fun D σ H=>te σ H D.rt
theorem qt (he:PE X e te):PS X (.Return (some e) pos) (BK te):=by
 intro pins s σ H D I h
 exact wpAny_Return_some (xy (he pins s σ H _ I h) fun v s1 ⟨x,H1,I1,r1,q1⟩=>⟨x,σ,H1,I1,r1,q1⟩)
noncomputable def B3:TS:=fun D _ H=>D.rt .non H
noncomputable def Be (c:TT) (t u:TS):TS:=fun D σ H=>c σ H fun b H1=>if b=true then t D σ H1 else u D σ H1
theorem qM {c:Expr} {a b:List Stmt} {tc:TT} (hc:PT X c tc) (ha:ij X a t) (hb:ij X b u):PS X (.If c a b pos) (Be tc t u):=by
 intro pins s σ H D I h
 refine wpAny_If (xy (hc pins s σ H _ I h) fun d s1 ⟨H1,I1,q1⟩=>?_)
 cases d with
 | true=>exact ha pins s1 σ H1 D I1 q1
 | false=>exact hb pins s1 σ H1 D I1 q1
noncomputable def BQ:TS:=fun _ _ _=>False
end
noncomputable abbrev TG:=V→St→Hp→(St→Hp→Prop)→Prop
noncomputable abbrev KG:=List V→St→Hp→(St→Hp→Prop)→Prop
noncomputable def PG (X:Cx) (target:Expr) (t:TG):Prop:=
 ∀(pins:List (Addr × Obj)) (s:Shared) (σ:St) (H:Hp) (v:V) (u:Value) (Q:St→Hp→Prop),Inv X pins σ H s→RelV v u→t v σ H Q→
  wpAny (model X.prog X.w) X.A (assign target X.env u) (fun _ s'=>∃σ' H',Inv X pins σ' H' s'∧Q σ' H') X.xe s
noncomputable def Yx (X:Cx) (ts:List Expr) (t:KG):Prop:=
 ∀(pins:List (Addr × Obj)) (s:Shared) (σ:St) (H:Hp) (vs:List V) (us:List Value) (Q:St→Hp→Prop),Inv X pins σ H s→Vals vs us→t vs σ H Q→
  wpAny (model X.prog X.w) X.A (assignInOrder ((assignEach ts X.env).map (·.2)) us) (fun _ s'=>∃σ' H',Inv X pins σ' H' s'∧Q σ' H') X.xe s
noncomputable abbrev Xq:=V→V→V→Hp→(Hp→Prop)→Prop
noncomputable def Ym (X:Cx) (t:Xq):Prop:=
 ∀(pins:List (Addr × Obj)) (s:Shared) (σ:St) (H:Hp) (o i v:V) (ov iv u:Value) (Q:Hp→Prop),Inv X pins σ H s→RelV o ov→RelV i iv→RelV v u→t o i v H Q→
  wpAny (model X.prog X.w) X.A (setItem ov iv u) (fun _ s'=>∃H',Inv X pins σ H' s'∧Q H') X.xe s
noncomputable abbrev GD:=V→V→Hp→VK→Prop
noncomputable def Fq (X:Cx) (op:Operator) (t:GD):Prop:=
 ∀(pins:List (Addr × Obj)) (s:Shared) (σ:St) (H:Hp) (x y:V) (v u:Value) (Q:VK),Inv X pins σ H s→RelV x v→RelV y u→t x y H Q→
  wpAny (model X.prog X.w) X.A (inplaceOp op v u) (EP X pins σ Q) X.xe s
section
variable {X:Cx} {pos:Pos}
noncomputable def dH (i:Nat):TG:=fun v σ H Q=>Q (σ.set i (some v)) H
theorem xR {i:Nat} {x:Str} (hN:X.N.Nodup) (hi:X.N[i]?=some x) (hx:Loc X.env.scope x) (hf:X.fn x=true∨X.env.scope.names.lookup x=some .local:=by first | exact .inl rfl | exact .inr rfl | assumption):PG X (.Name x pos) (dH i):=by
 intro pins s σ H v u Q I r h
 exact wpAny_assign_Name (pP I hN hi hx r (fun s' I'=>⟨_,H,I',h⟩) hf)
noncomputable def YV:KG:=fun vs σ H Q=>vs=[]∧Q σ H
noncomputable def Qe (t:TG) (u:KG):KG:=fun vs σ H Q=>∃v r,vs=v :: r∧t v σ H fun σ' H'=>u r σ' H' Q
theorem cV:Yx X [] YV:=by
 intro pins s σ H vs us Q I r h
 obtain⟨e,h⟩:=h
 subst e
 cases r
 exact assignInOrder_nil ⟨σ,H,I,h⟩
theorem wM {e:Expr} {es:List Expr} {t:TG} {u:KG} (h1:PG X e t) (h2:Yx X es u)
  (hs:(assignEach (e :: es) X.env).map (·.2)=assign e X.env :: (assignEach es X.env).map (·.2):=by rfl):Yx X (e :: es) (Qe t u):=by
 intro pins s σ H vs us Q I r h
 obtain⟨v,vr,e1,h⟩:=h
 subst e1
 cases r with
 | cons r rr=>
  rw[hs]
  refine assignInOrder_cons (xy (h1 pins s σ H _ _ _ I r h) fun _ s1 ⟨σ1,H1,I1,q1⟩=>?_)
  exact h2 pins s1 σ1 H1 _ _ Q I1 rr q1
noncomputable def V3 (K:PySem.W.Frag) (n:Nat) (t:KG):TG:=fun v σ H Q=>∃a xs,v=.ref a∧fz K H a xs∧xs.length=n∧t xs σ H Q
theorem WJ {es:List Expr} {k:Nat} {t:KG} {n:Nat} (hc:X.calm=true) (h:Yx X es t)
  (hn:(assignEach es X.env).length=n:=by rfl) (hst:(assignEach es X.env).findIdx? (·.1)=none:=by rfl):PG X (.Tuple es k pos) (V3 X.K n t):=by
 intro pins s σ H v u Q I r hw
 obtain⟨a,xs,e1,hq,hl,hw⟩:=hw
 subst e1
 cases r
 obtain⟨its,rv,ht,hz⟩:=I.tuple hq
 refine assign_Tuple_tuple (I.ok.hd hc) ht (by simp [hn,←hl,rv.length]) hst fun h' hx=>?_
 have I1:Inv X pins σ H { s with heap:=h' }:=I.kept (t':=s.toks) fun b o e=>hx b o (Nat.ne_of_lt (Heap.lt_size e)) e
 exact h pins _ σ H xs _ Q I1 (by simpa using rv) hw
noncomputable def HP (to ti:TE) (t:Xq):TG:=fun v σ H Q=>to σ H fun o H1=>ti σ H1 fun i H2=>t o i v H2 fun H3=>Q σ H3
theorem Jx {o i:Expr} {to ti:TE} {t:Xq} (ho:PE X o to) (hi:PE X i ti) (hs:Ym X t)
  (ha:∀v,assign (.Subscript o i pos) X.env v=(do
   let ov ←holding [v] (eval o X.env)
   let iv ←holding [v,ov] (eval i X.env)
   standAt pos
   holding [v,ov,iv] (setItem ov iv v)
   release [v,ov,iv] []):=by intro _;rfl):PG X (.Subscript o i pos) (HP to ti t):=by
 intro pins s σ H v u Q I r h
 rw[ha]
 refine wpAny_bind (wpAny_holding (xy (ho pins s σ H _ I h) fun ov s1 ⟨x,H1,I1,r1,q1⟩=>?_))
 refine wpAny_bind (wpAny_holding (xy (hi pins s1 σ H1 _ I1 q1) fun iv s2 ⟨y,H2,I2,r2,q2⟩=>?_))
 refine wpAny_bind (wpAny_standAt (wpAny_bind (wpAny_holding (xy (hs pins s2 σ H2 x y v ov iv u _ I2 r1 r2 r q2) fun _ s3 ⟨H3,I3,q3⟩=>?_))))
 exact wpAny_release ⟨σ,H3,I3,q3⟩
noncomputable def WE (te:TE) (g:TG):TS:=fun D σ H=>te σ H fun x H1=>g x σ H1 D.nx
theorem iD {tg e:Expr} {te:TE} {g:TG} (he:PE X e te) (hg:PG X tg g) (hs:swapsWithSole [tg] e pos.line X.env=pure false:=by rfl) (hw:swappedStores [tg] e X.env=pure none:=by rfl)
  (h1:(assignEach [tg] X.env).map (·.2)=[assign tg X.env]:=by rfl):PS X (.Assign [tg] e pos) (WE te g):=by
 intro pins s σ H D I h
 refine wpAny_Assign_stores (xy (he pins s σ H _ I h) fun v s1 ⟨x,H1,I1,r1,q1⟩=>?_) hs hw
 rw[h1]
 exact xy (hg pins s1 σ H1 x v _ I1 r1 q1) fun _ s2 q=>q
theorem qi {i:Nat} {x:Str} {e:Expr} {te:TE} {pos':Pos} (hN:X.N.Nodup) (hi:X.N[i]?=some x) (hx:Loc X.env.scope x) (he:PE X e te) (hs:swapsWith e (some (.Name x pos')) pos.line X.env=pure false:=by rfl) (hf:X.fn x=true∨X.env.scope.names.lookup x=some .local:=by first | exact .inl rfl | exact .inr rfl | assumption) :
  PS X (.Assign [.Name x pos'] e pos) (WE te (dH i)):=by
 intro pins s σ H D I h
 refine wpAny_Assign_Name (xy (he pins s σ H _ I h) fun v s1 ⟨y,H1,I1,r1,q1⟩=>?_) hs
 exact pP I1 hN hi hx r1 (fun s2 I2=>⟨_,H1,I2,q1⟩) hf
noncomputable def P2 (i j:Nat) (ta:TA):TS:=fun D σ H=>ta σ H fun vs H1=>∃v w,vs=[v,w]∧D.nx ((σ.set i (some v)).set j (some w)) H1
noncomputable def PM (i:Nat) (te:TE) (ti:GD):TS:=fun D σ H=>∃x,σ[i]?=some (some x)∧te σ H fun y H1=>ti x y H1 fun z H2=>D.nx (σ.set i (some z)) H2
noncomputable def BO (to ti te:TE) (tget:V→V→Hp→VK→Prop) (tip:GD) (tset:Xq):TS:=fun D σ H=>to σ H fun o H1=>ti σ H1 fun i H2=>tget o i H2 fun x H3=>te σ H3 fun y H4=>tip x y H4 fun z H5=>tset o i z H5 fun H6=>D.nx σ H6
noncomputable def Pk (X:Cx) (t:V→V→Hp→VK→Prop):Prop:=
 ∀(pins:List (Addr × Obj)) (s:Shared) (σ:St) (H:Hp) (o i:V) (ov iv:Value) (Q:VK),Inv X pins σ H s→RelV o ov→RelV i iv→t o i H Q→
  wpAny (model X.prog X.w) X.A (getItem ov iv) (EP X pins σ Q) X.xe s
noncomputable def Fw (f:Int→Int→Int):GD:=fun x y H Q=>∃i j,x=.int i∧y=.int j∧Q (.int (f i j)) H
end
section
variable {X:Cx} {pos:Pos}
noncomputable def BY (c:TT) (tb:TS):TS:=fun D σ H=>∃W:Nat→St→Hp→Prop,(∃m,W m σ H)∧∀m σ H,W m σ H→
 c σ H fun b H1=>if b=true then ∃N:St→Hp→Prop,(∀σ' H',N σ' H'→∃m',m' < m∧W m' σ' H')∧tb { D with nx:=N,ct:=N,bk:=D.nx } σ H1 else D.nx σ H1
end
structure It where
 go:Nat→Hp→Prop
 VY:Nat→Hp→V→Hp→Prop
 stop:Nat→Hp→Prop
noncomputable def gc (X:Cx) (pins:List (Addr × Obj)) (H:Hp) (b:Addr):Prop:=
 H b=none∧b≠X.env.locals∧b∉X.fs∧(b∈X.ex∨X.s₀.heap.objs.size≤b)∧(∀x c,X.env.cells.lookup x=some c→c≠b)∧∀p∈X.pn ++ pins,p.1≠b
theorem Inv.Zk {X:Cx} {pins:List (Addr × Obj)} {σ:St} {H H':Hp} {s:Shared} {b:Addr} (I:Inv X pins σ H s) (hb:s.heap.objs.size≤b) (hn:H' b=none):gc X pins H' b:=by
 refine⟨hn,Nat.ne_of_gt (Nat.lt_of_lt_of_le I.lt hb),I.Bq hb,.inr (Nat.le_trans I.sz hb),fun x c e z=>?_,fun p hp z=>?_⟩
 ·obtain⟨v,q⟩:=I.cell x c e
  exact absurd (Nat.lt_of_lt_of_le q.lt (by rw[z];exact hb)) (Nat.lt_irrefl _)
 ·exact absurd (Nat.lt_of_lt_of_le (Heap.lt_size (I.pin p hp).1) (by rw[z];exact hb)) (Nat.lt_irrefl _)
structure Turn (P:Program) (w:World) (K:PySem.W.Frag) (tg:Expr) (J:It) (fp:List Addr) (it:Addr) (tn:Nat→Heap→Prop):Prop where
 mem:it∈fp
 obj:∀i h,tn i h→∀b∈fp,∃o,h.get? b=some o∧∀v,o.data≠.cell v
 keep:∀i h h',tn i h→(∀b∈fp,∀o,h.get? b=some o→h'.get? b=some o)→tn i h'
 item:∀(X:Cx),X.prog=P→X.w=w→X.K=K→X.calm=true→∀(i:Nat) (pins:List (Addr × Obj)) (s:Shared) (σ:St) (H:Hp) (E:Value→Shared→Prop),Inv X pins σ H s→(∀b∈fp,gc X pins H b)→tn i s.heap→J.go i H→
  wpAny (model P w) X.A (pyNext (.ref it)) (fun r s1=>∃u,r=some u∧
   wpAny (model P w) X.A (letOwnedTupleGo tg (.ref it) u) (fun _ s2=>∃x H',Inv X pins σ H' s2∧RelV x u∧J.VY i H x H'∧tn (i + 1) s2.heap∧∀b∈fp,H' b=none) E s1) E s
 done:∀(X:Cx),X.prog=P→X.w=w→X.K=K→X.calm=true→∀(i:Nat) (pins:List (Addr × Obj)) (s:Shared) (σ:St) (H:Hp) (E:Value→Shared→Prop),Inv X pins σ H s→(∀b∈fp,gc X pins H b)→tn i s.heap→J.stop i H→
  wpAny (model P w) X.A (pyNext (.ref it)) (fun r s1=>r=none∧Inv X pins σ H s1) E s
 self:∀(A:Around) (i:Nat) (s:Shared) (Q:Value→Shared→Prop) (E:Value→Shared→Prop),tn i s.heap→Q (.ref it) s→wpAny (model P w) A (pyIter (.ref it)) Q E s
noncomputable abbrev TI:=St→Hp→(It→Hp→Prop)→Prop
noncomputable def BM (X:Cx) (pins:List (Addr × Obj)) (σ:St) (tg:Expr) (R:It→Hp→Prop) (itv:Value) (s2:Shared):Prop:=
 ∃(it:Addr) (fp:List Addr) (tn:Nat→Heap→Prop) (J:It) (H':Hp),itv=.ref it∧Inv X pins σ H' s2∧Turn X.prog X.w X.K tg J fp it tn∧tn 0 s2.heap∧(∀b∈fp,gc X pins H' b)∧R J H'
noncomputable def PI (X:Cx) (tg iter:Expr) (wi:TI):Prop:=
 ∀(pins:List (Addr × Obj)) (s:Shared) (σ:St) (H:Hp) (R:It→Hp→Prop),Inv X pins σ H s→wi σ H R→
  wpAny (model X.prog X.w) X.A (eval iter X.env) (fun v s1=>wpAny (model X.prog X.w) X.A (pyIter v) (BM X pins σ tg R) X.xe s1) X.xe s
theorem QQ {M:Model} {A:Around} {E:Value→Shared→Prop} {s:Shared} {tg:Expr} {it:Addr} {u:Value} {o:Obj} {n:String} {vs:Array Value} {Q:Unit→Shared→Prop} (ho:s.heap.get? it=some o) (hc:o.cls=.type n) (hd:o.data=.fields vs)
  (hn:["enumerate","zip","dict_itemiterator","dict_reverseitemiterator","odict_iterator","itertools.zip_longest","itertools.pairwise"].contains n=false) (hQ:Q () s):wpAny M A (letOwnedTupleGo tg (.ref it) u) Q E s:=by
 unfold letOwnedTupleGo
 cases tg<;>first
  | exact wpAny_pure hQ
  | (cases u<;>first
    | exact wpAny_pure hQ
    | (refine wpAny_bind (wpAny_load ho ?_);rw[hc,hd];show wpAny M A (if (["enumerate","zip","dict_itemiterator","dict_reverseitemiterator","odict_iterator","itertools.zip_longest","itertools.pairwise"].contains n && vs[0]? == some (rawInt _))=true then _ else _) Q E s;rw[if_neg (by intro h;rw[hn,Bool.false_and] at h;cases h)];exact wpAny_pure hQ))
noncomputable def Yq (K:PySem.W.Frag) (a:Addr):It:=
 ⟨fun i H=>∃xs x,jx K H a xs∧xs[i]?=some x,fun i H x H'=>H'=H∧∀xs,jx K H a xs→xs[i]?=some x,fun i H=>∃xs,jx K H a xs∧xs.length≤i⟩
noncomputable def Pq (K:PySem.W.Frag) (a:Addr):It:=
 ⟨fun i H=>∃xs x,fz K H a xs∧xs[i]?=some x,fun i H x H'=>H'=H∧∀xs,fz K H a xs→xs[i]?=some x,fun i H=>∃xs,fz K H a xs∧xs.length≤i⟩
noncomputable def KW (lo:Int) (n:Nat):It:=⟨fun i _=>i < n,fun i H x H'=>H'=H∧x=.int (lo + i),fun i _=>n≤i⟩
theorem ZL {P:Program} {w:World} {K:PySem.W.Frag} {tg:Expr} (a it:Addr):Turn P w K tg (Yq K a) [it] it (fun i h=>h.IsListIter it a i) where
 mem:=by simp
 obj:=fun i h st b hb=>by
  have e:b=it:=by simpa using hb
  subst e
  obtain⟨o,e,c,d⟩:=st
  exact⟨o,e,fun v z=>by rw[d] at z;cases z⟩
 keep:=fun i h h' st k=>st.at fun o e=>k it (by simp) o e
 item:=by
  intro X hP hw hK hc i pins s σ H E I hf st hg
  subst hP hw hK
  obtain⟨xs,x,hq,hx⟩:=hg
  obtain⟨its,rv,p,hz⟩:=I.list hq
  obtain⟨u,hu,ru⟩:=rv.get hx
  obtain⟨f0,f1,f2,f3,f4,f5⟩:=hf it (by simp)
  refine wpAny_pyNext_list_item st p.isList (x:=u) (by simpa using hu) fun h' st' sb=>?_
  have I1:Inv X pins σ H { s with heap:=h' }:=I.turned (t':=s.toks) (fun b o hb e=>(sb.2 b hb).trans e) f0 f1 f3 f4 f5
  obtain⟨o,e,c,d⟩:=id st'
  exact⟨u,rfl,QQ (s:={ s with heap:=h' }) e c d (by decide) ⟨x,H,I1,ru,⟨rfl,fun ys hy=>by rw[I.cE hy hq];exact hx⟩,st',fun b hb=>(hf b hb).1⟩⟩
 done:=by
  intro X hP hw hK hc i pins s σ H E I hf st hg
  subst hP hw hK
  obtain⟨xs,hq,hx⟩:=hg
  obtain⟨its,rv,p,hz⟩:=I.list hq
  obtain⟨f0,f1,f2,f3,f4,f5⟩:=hf it (by simp)
  have hl:=rv.length
  exact wpAny_pyNext_list_end (I.ok.hd hc) st p.isList (by simp;omega) fun h' eb=>⟨rfl,I.turned (t':=s.toks) (fun b o hb e=>eb b o hb e) f0 f1 f3 f4 f5⟩
 self:=fun _ _ _ _ _ st h=>wpAny_pyIter_listiter st h
theorem i8 {P:Program} {w:World} {K:PySem.W.Frag} {tg:Expr} (it:Addr) (lo:Int) (n:Nat):Turn P w K tg (KW lo n) [it] it (fun i h=>IsRangeIter h it (lo + (i:Nat) * 1) ((n:Int) - (i:Nat)) 1) where
 mem:=by simp
 obj:=fun i h st b hb=>by
  have e:b=it:=by simpa using hb
  subst e
  exact⟨_,st,fun v z=>by
   have z':Data.fields _=Data.cell v:=z
   cases z'⟩
 keep:=fun i h h' st k=>k it (by simp) _ st
 item:=by
  intro X hP hw hK hc i pins s σ H E I hf st hg
  subst hP hw hK
  obtain⟨f0,f1,f2,f3,f4,f5⟩:=hf it (by simp)
  have W:=Walks.range (prog:=X.prog) (w:=X.w) (I.ok.hd hc) it lo 1 n
  refine W.item i s _ _ hg st fun v h' tk hv st' kk=>?_
  obtain⟨t,rfl⟩:=hv
  have I1:Inv X pins σ H { s with heap:=h',toks:=tk }:=I.turned (fun b o hb e=>kk b o (by simpa using hb) e) f0 f1 f3 f4 f5
  refine⟨_,rfl,QQ (s:={ s with heap:=h',toks:=tk }) (n:="range_iterator") st' rfl rfl (by decide) ⟨.int (lo + i),H,I1,⟨t,?_⟩,⟨rfl,rfl⟩,st',fun b hb=>(hf b hb).1⟩⟩
  rw[Int.mul_one]
 done:=by
  intro X hP hw hK hc i pins s σ H E I hf st hg
  subst hP hw hK
  obtain⟨f0,f1,f2,f3,f4,f5⟩:=hf it (by simp)
  exact wpAny_pyNext_range_end (I.ok.hd hc) st (by have:n≤i:=hg;omega) fun h' eb=>⟨rfl,I.turned (t':=s.toks) (fun b o hb e=>eb b o hb e) f0 f1 f3 f4 f5⟩
 self:=fun _ _ _ _ _ st h=>wpAny_pyIter_rangeiter st h
end L2
namespace L2
open PySem PySem.Spec PyProof.Rows
section
variable {X:Cx} {tg:Expr}
noncomputable def KI (K:PySem.W.Frag) (tl:TE):TI:=fun σ H R=>tl σ H fun x H1=>∃a,x=.ref a∧(∃xs,jx K H1 a xs)∧R (Yq K a) H1
noncomputable def Po (K:PySem.W.Frag) (tl:TE):TI:=fun σ H R=>tl σ H fun x H1=>∃a,x=.ref a∧(∃xs,fz K H1 a xs)∧R (Pq K a) H1
theorem XO {l:Expr} {tl:TE} (hl:PE X l tl):PI X tg l (KI X.K tl):=by
 intro pins s σ H R I h
 refine xy (hl pins s σ H _ I h) fun v s1 ⟨x,H1,I1,r1,q1⟩=>?_
 obtain⟨a,e,⟨xs,hq⟩,q⟩:=q1
 subst e
 cases r1
 obtain⟨its,rv,p,hz⟩:=I1.list hq
 refine wpAny_pyIter_list p.isList ?_
 refine⟨s1.heap.objs.size,[s1.heap.objs.size],_,_,H1,rfl,I1.kept (t':=s1.toks) fun b o e=>Heap.get?_push_of_some _ e,ZL a _,⟨_,Heap.get?_push_size _ rfl,rfl,rfl⟩,fun b hb=>?_,q⟩
 have e:b=s1.heap.objs.size:=by simpa using hb
 subst e
 exact I1.Zk (Nat.le_refl _) (I1.jw.fresh (Nat.le_refl _))
theorem oa {pins:List (Addr × Obj)} {σ:St} {H:Hp} {s:Shared} {R:It→Hp→Prop} {E:Value→Shared→Prop} {lo hi:Int} {t u v:Tok} {tk:Nat} (I:Inv X pins σ H s) (h1:-(2 ^ 62)≤lo) (h2:lo < 2 ^ 62) (h3:-(2 ^ 62)≤hi) (h4:hi < 2 ^ 62)
  (q:R (KW lo (hi - lo).toNat) H):wpAny (model X.prog X.w) X.A (pyIter (.ref s.heap.objs.size)) (BM X pins σ tg R) E { s with heap:=s.heap.push { cls:=.type "range",data:=.fields #[.int lo t,.int hi u,.int 1 v] },toks:=tk }:=by
 refine wpAny_pyIter_range (IsRange.new ..) (small_one h1 h2 h3 h4) ?_
 have I1:Inv X pins σ H { s with heap:=s.heap.push { cls:=.type "range",data:=.fields #[.int lo t,.int hi u,.int 1 v] },toks:=tk }:=I.kept fun b o e=>Heap.get?_push_of_some _ e
 refine⟨(s.heap.push { cls:=.type "range",data:=.fields #[.int lo t,.int hi u,.int 1 v] }).objs.size,[(s.heap.push { cls:=.type "range",data:=.fields #[.int lo t,.int hi u,.int 1 v] }).objs.size],_,_,H,rfl,
  I1.kept (t':=tk) fun b o e=>Heap.get?_push_of_some _ e,i8 _ lo (hi - lo).toNat,?_,fun b hb=>?_,q⟩
 ·have e1:lo + ((0:Nat):Int) * 1=lo:=by simp
  have e2:(((hi - lo).toNat:Nat):Int) - ((0:Nat):Int)=Builtin.Range.rangeSize lo hi 1:=by rw[rangeSize_one];split<;>omega
  show IsRangeIter _ _ (lo + ((0:Nat):Int) * 1) ((((hi - lo).toNat:Nat):Int) - ((0:Nat):Int)) 1
  rw[e1,e2]
  exact Heap.get?_push_size _ rfl
 ·have e:b=(s.heap.push { cls:=.type "range",data:=.fields #[.int lo t,.int hi u,.int 1 v] }).objs.size:=by simpa using hb
  subst e
  exact I1.Zk (Nat.le_refl _) (I1.jw.fresh (Nat.le_refl _))
noncomputable def YY (ta:TA):TI:=fun σ H R=>ta σ H fun vs H1=>∃j:Int,vs=[.int j]∧-(2 ^ 62)≤j∧j < 2 ^ 62∧R (KW 0 j.toNat) H1
noncomputable def YG (ta:TA):TI:=fun σ H R=>ta σ H fun vs H1=>∃i j:Int,vs=[.int i,.int j]∧(-(2 ^ 62)≤i∧i < 2 ^ 62∧-(2 ^ 62)≤j∧j < 2 ^ 62)∧R (KW i (j - i).toNat) H1
theorem yu {a:Expr} {ta:TA} {p pos:Pos} (hg:Gl X "range") (hm:X.mg "range" = none) (ha:PA X [a] ta) (hs:starEach [a] X.env=[(false,eval a X.env)]:=by rfl):PI X tg (.Call (.Name "range" p) [a] [] pos) (YY ta):=by
 intro pins s σ H R I h
 refine Call_ (df I hg hm boot_range (PyProof.Rows.callWith_type1 (xy (ha pos pins s σ H _ I h) fun us s1 ⟨vs,H1,I1,r1,q1⟩=>?_) hs rfl))
 obtain⟨j,e,q1,q2,q⟩:=q1
 subst e
 cases r1 with
 | cons r rr=>
  cases rr
  obtain⟨t,rfl⟩:=r
  exact call_range_1 (oa I1 (by omega) (by omega) q1 q2 (by simpa using q))
theorem Ze {a b:Expr} {ta:TA} {p pos:Pos} (hg:Gl X "range") (hm:X.mg "range" = none) (ha:PA X [a,b] ta) (hs:starEach [a,b] X.env=[(false,eval a X.env),(false,eval b X.env)]:=by rfl) (hs2:starEach [b] X.env=[(false,eval b X.env)]:=by rfl) :
  PI X tg (.Call (.Name "range" p) [a,b] [] pos) (YG ta):=by
 intro pins s σ H R I h
 refine Call_ (df I hg hm boot_range (PyProof.Rows.callWith_type1 (xy (ha pos pins s σ H _ I h) fun us s1 ⟨vs,H1,I1,r1,q1⟩=>?_) (by rw[hs,hs2]) (by rw[hs2];rfl)))
 obtain⟨i,j,e,⟨q1,q2,q3,q4⟩,q⟩:=q1
 subst e
 cases r1 with
 | cons r rr=>
  cases rr with
  | cons r' rr=>
   cases rr
   obtain⟨t,rfl⟩:=r
   obtain⟨t',rfl⟩:=r'
   exact call_range_2 (oa I1 q1 q2 q3 q4 q)
noncomputable def Bi (wi:TI) (g:TG) (tb:TS):TS:=fun D σ H=>wi σ H fun J H1=>∃W:Nat→Nat→St→Hp→Prop,(∃m,W 0 m σ H1)∧∀i m σ H,W i m σ H→
 (J.stop i H∧D.nx σ H)∨(J.go i H∧∃N:St→Hp→Prop,(∀σ' H',N σ' H'→∃m',m' < m∧W (i + 1) m' σ' H')∧∀x H',J.VY i H x H'→g x σ H' fun σ2 H2=>tb { D with nx:=N,ct:=N,bk:=D.nx } σ2 H2)
noncomputable def uJ (fp:List Addr) (h:Heap):List (Addr × Obj):=fp.filterMap fun b=>(h.get? b).map fun o=>(b,o)
theorem vN {fp:List Addr} {h:Heap} {b:Addr} {o:Obj} (hb:b∈fp) (e:h.get? b=some o):(b,o)∈uJ fp h:=List.mem_filterMap.mpr ⟨b,hb,by rw[e];rfl⟩
theorem Zl {fp:List Addr} {h:Heap} {p:Addr × Obj} (hp:p∈uJ fp h):p.1∈fp∧h.get? p.1=some p.2:=by
 obtain⟨b,hb,e⟩:=List.mem_filterMap.mp hp
 cases q:h.get? b with
 | none=>rw[q] at e;cases e
 | some o=>
  rw[q] at e
  have e':(b,o)=p:=Option.some.inj e
  subst e'
  exact⟨hb,q⟩
theorem Inv.pinned {pins:List (Addr × Obj)} {σ:St} {H:Hp} {s:Shared} {fp:List Addr} (I:Inv X pins σ H s) (hf:∀b∈fp,gc X pins H b) (ho:∀b∈fp,∃o,s.heap.get? b=some o∧∀v,o.data≠.cell v):Inv X (pins ++ uJ fp s.heap) σ H s:=
 I.sT fun p hp=>(List.mem_append.mp hp).elim (fun z=>I.pin p (List.mem_append_right _ z)) fun z=>by
  obtain⟨hb,e⟩:=Zl z
  obtain⟨f0,f1,f2,_⟩:=hf p.1 hb
  obtain⟨o,e',d⟩:=ho p.1 hb
  rw[e] at e';cases e'
  exact⟨e,f0,f1,f2,d⟩
theorem Inv.yM {pins pl:List (Addr × Obj)} {σ:St} {H:Hp} {s:Shared} (I:Inv X (pins ++ pl) σ H s):Inv X pins σ H s:=I.sT fun p hp=>I.pin p (List.mem_append_right _ (List.mem_append_left _ hp))
theorem fM {iter:Expr} {body:List Stmt} {wi:TI} {g:TG} {tb:TS} {pos:Pos} (hp:PassesOwn (model X.prog X.w) X.A X.env X.xe) (hc:X.calm=true) (hi:PI X tg iter wi) (hg:PG X tg g) (hb:ij X body tb)
  (hs:∀x,foldedSetIterable iter X.env x=pure x:=by intro _;rfl):PS X (.For tg iter body [] pos) (Bi wi g tb):=by
 intro pins s σ H D I h
 refine wpAny_For (xy (hi pins s σ H _ I h) fun v s1 h1=>xy h1 fun itv s2 h2=>?_) hs
 obtain⟨it,fp,tn,J,H2,e,I2,T,st2,f2,W,⟨m0,w0⟩,turn⟩:=h2
 subst e
 have stat:∀{H':Hp},(∀b∈fp,H' b=none)→∀b∈fp,gc X pins H' b:=fun hn b hb=>⟨hn b hb,(f2 b hb).2⟩
 refine codeAny_forLoop_any (fun n s'=>∃i σ' H',Inv X pins σ' H' s'∧tn i s'.heap∧(∀b∈fp,H' b=none)∧W i n σ' H') ?_ m0 ⟨0,σ,H2,I2,st2,fun b hb=>(f2 b hb).1,w0⟩
 rintro n s3 ⟨i,σ3,H3,I3,st3,fr3,w3⟩
 rcases turn i n σ3 H3 w3 with ⟨stop,qn⟩ | ⟨go,N,hN,step⟩
 ·refine wpAny_passesOwn hp (xy (T.done X rfl rfl rfl hc i pins s3 σ3 H3 X.xe I3 (stat fr3) st3 stop) fun r s4 ⟨hr,I4⟩=>?_)
  subst hr
  exact wpAny_execs_nil ⟨σ3,H3,I4,qn⟩
 ·refine wpAny_passesOwn hp (xy (T.item X rfl rfl rfl hc i pins s3 σ3 H3 X.xe I3 (stat fr3) st3 go) fun r s4 ⟨u,hr,h4⟩=>?_)
  subst hr
  refine wpAny_passesOwn hp (xy h4 fun _ s5 ⟨x,H5,I5,r5,y5,st5,fr5⟩=>?_)
  have I5':=I5.pinned (stat fr5) (T.obj _ _ st5)
  refine wpAny_passesOwn hp (xy (hg _ s5 σ3 H5 x u _ I5' r5 (step x H5 y5)) fun _ s6 ⟨σ6,H6,I6,q6⟩=>?_)
  refine wpAny_passesOwn hp (xy (hb _ s6 σ6 H6 _ I6 q6) fun f s7 q7=>?_)
  have again:∀{σ7:St} {H7:Hp},Inv X (pins ++ uJ fp s5.heap) σ7 H7 s7→N σ7 H7→∃m,m < n∧∃i σ' H',Inv X pins σ' H' s7∧tn i s7.heap∧(∀b∈fp,H' b=none)∧W i m σ' H':=fun {σ7 H7} I7 n7=>by
   obtain⟨m',hm,w7⟩:=hN σ7 H7 n7
   refine⟨m',hm,i + 1,σ7,H7,I7.yM,T.keep _ _ _ st5 fun b hb o e=>(I7.pin (b,o) (List.mem_append_right _ (List.mem_append_right _ (vN hb e)))).1,fun b hb=>?_,w7⟩
   obtain⟨o,e,d⟩:=T.obj _ _ st5 b hb
   exact(I7.pin (b,o) (List.mem_append_right _ (List.mem_append_right _ (vN hb e)))).2.1
  cases f with
  | next=>obtain⟨σ7,H7,I7,n7⟩:=q7;exact again I7 n7
  | cont=>obtain⟨σ7,H7,I7,n7⟩:=q7;exact again I7 n7
  | brk=>obtain⟨σ7,H7,I7,q7⟩:=q7;exact⟨σ7,H7,I7.yM,q7⟩
  | ret v=>obtain⟨x7,σ7,H7,I7,r7,q7⟩:=q7;exact⟨x7,σ7,H7,I7.yM,r7,q7⟩
end
theorem cU {K:PySem.W.Frag} {a:Addr} {xs:List V} {g:TG} {tb:TS} {D:Ends} {σ:St} {H:Hp} (Pv:Nat→St→Hp→Prop) (h0:Pv 0 σ H) (hl:∀i σ H,i≤xs.length→Pv i σ H→jx K H a xs)
  (hs:∀i x σ H,xs[i]?=some x→Pv i σ H→g x σ H fun σ2 H2=>tb { D with nx:=Pv (i + 1),ct:=Pv (i + 1),bk:=D.nx } σ2 H2) (hd:∀σ H,Pv xs.length σ H→D.nx σ H) :
  ∃W:Nat→Nat→St→Hp→Prop,(∃m,W 0 m σ H)∧∀i m σ H,W i m σ H→
   ((Yq K a).stop i H∧D.nx σ H)∨((Yq K a).go i H∧∃N:St→Hp→Prop,(∀σ' H',N σ' H'→∃m',m' < m∧W (i + 1) m' σ' H')∧∀x H',(Yq K a).VY i H x H'→g x σ H' fun σ2 H2=>tb { D with nx:=N,ct:=N,bk:=D.nx } σ2 H2):=by
 refine⟨fun i m σ H=>m=xs.length - i∧i≤xs.length∧Pv i σ H,⟨xs.length,by simp,Nat.zero_le _,h0⟩,?_⟩
 rintro i m σ H ⟨rfl,hi,p⟩
 have q:=hl i σ H hi p
 by_cases hlt:i < xs.length
 ·refine .inr ⟨⟨xs,xs[i],q,by simp [hlt]⟩,Pv (i + 1),fun σ' H' p'=>⟨xs.length - (i + 1),by omega,rfl,hlt,p'⟩,fun x H' y=>?_⟩
  obtain⟨e,y⟩:=y
  subst e
  exact hs i x σ _ (y xs q) p
 ·have e:i=xs.length:=by omega
  subst e
  exact .inl ⟨⟨xs,q,Nat.le_refl _⟩,hd σ H p⟩
theorem pO {lo:Int} {n:Nat} {g:TG} {tb:TS} {D:Ends} {σ:St} {H:Hp} (Pv:Nat→St→Hp→Prop) (h0:Pv 0 σ H)
  (hs:∀i σ H,i < n→Pv i σ H→g (.int (lo + i)) σ H fun σ2 H2=>tb { D with nx:=Pv (i + 1),ct:=Pv (i + 1),bk:=D.nx } σ2 H2) (hd:∀σ H,Pv n σ H→D.nx σ H) :
  ∃W:Nat→Nat→St→Hp→Prop,(∃m,W 0 m σ H)∧∀i m σ H,W i m σ H→
   ((KW lo n).stop i H∧D.nx σ H)∨((KW lo n).go i H∧∃N:St→Hp→Prop,(∀σ' H',N σ' H'→∃m',m' < m∧W (i + 1) m' σ' H')∧∀x H',(KW lo n).VY i H x H'→g x σ H' fun σ2 H2=>tb { D with nx:=N,ct:=N,bk:=D.nx } σ2 H2):=by
 refine⟨fun i m σ H=>m=n - i∧i≤n∧Pv i σ H,⟨n,by simp,Nat.zero_le _,h0⟩,?_⟩
 rintro i m σ H ⟨rfl,hi,p⟩
 by_cases hlt:i < n
 ·refine .inr ⟨hlt,Pv (i + 1),fun σ' H' p'=>⟨n - (i + 1),by omega,rfl,hlt,p'⟩,fun x H' y=>?_⟩
  obtain⟨e,y⟩:=y
  subst e y
  exact hs i σ _ hlt p
 ·have e:i=n:=by omega
  subst e
  exact .inl ⟨Nat.le_refl _,hd σ H p⟩
end L2
namespace L2
open PySem PySem.Spec PyProof.Rows
noncomputable abbrev R2:=V→V→Hp→VK→Prop
noncomputable def bL (X:Cx) (f:Value→Value→Sem Value) (r:R2):Prop:=
 ∀(pins:List (Addr × Obj)) (s:Shared) (σ:St) (H:Hp) (x y:V) (v u:Value) (Q:VK),Inv X pins σ H s→RelV x v→RelV y u→r x y H Q→
  wpAny (model X.prog X.w) X.A (f v u) (EP X pins σ Q) X.xe s
noncomputable def Hg (X:Cx) (f:Value→Sem Value) (r:V→Hp→VK→Prop):Prop:=
 ∀(pins:List (Addr × Obj)) (s:Shared) (σ:St) (H:Hp) (x:V) (v:Value) (Q:VK),Inv X pins σ H s→RelV x v→r x H Q→
  wpAny (model X.prog X.w) X.A (f v) (EP X pins σ Q) X.xe s
noncomputable def kA (X:Cx) (f:Value) (r:List V→Hp→VK→Prop):Prop:=
 ∀(pins:List (Addr × Obj)) (s:Shared) (σ:St) (H:Hp) (xs:List V) (us:List Value) (Q:VK),Inv X pins σ H s→Vals xs us→r xs H Q→
  wpAny (model X.prog X.w) X.A (call f us) (EP X pins σ Q) X.xe s
noncomputable def Py (X:Cx) (r:V→Hp→(Bool→Hp→Prop)→Prop):Prop:=
 ∀(pins:List (Addr × Obj)) (s:Shared) (σ:St) (H:Hp) (x:V) (v:Value) (Q:Bool→Hp→Prop),Inv X pins σ H s→RelV x v→r x H Q→
  wpAny (model X.prog X.w) X.A (truthy v) (TP X pins σ Q) X.xe s
noncomputable def G6 (r:R2) (ta tb:TE):TE:=fun σ H Q=>ta σ H fun x H1=>tb σ H1 fun y H2=>r x y H2 Q
noncomputable def P6 (r:V→Hp→VK→Prop) (ta:TE):TE:=fun σ H Q=>ta σ H fun x H1=>r x H1 Q
noncomputable def rI (C:Int→Int→Prop) (g:Int→Int→V):R2:=fun x y H Q=>∃i j,x=.int i∧y=.int j∧C i j∧Q (g i j) H
noncomputable def WW (g:Int→Int→V):R2:=fun x y H Q=>∃i j,x=.int i∧y=.int j∧Q (g i j) H
noncomputable def rU (g:Int→V):V→Hp→VK→Prop:=fun x H Q=>∃i,x=.int i∧Q (g i) H
section
variable {X:Cx} {a b c:Expr} {ta tb tc:TE} {pos:Pos}
theorem VD (ha:PE X a ta) (hb:PE X b tb) {pins:List (Addr × Obj)} {s:Shared} {σ:St} {H:Hp} {R:V→V→Hp→Prop} (I:Inv X pins σ H s)
  (h:ta σ H fun x H1=>tb σ H1 fun y H2=>R x y H2) {Q:Value→Shared→Prop} {f:Value→Value→Sem Value}
  (hf:∀v u s2 x y H2,Inv X pins σ H2 s2→RelV x v→RelV y u→R x y H2→wpAny (model X.prog X.w) X.A (f v u) Q X.xe s2) :
  wpAny (model X.prog X.w) X.A (eval a X.env) (fun v s₁=>wpAny (model X.prog X.w) X.A (eval b X.env) (fun u s₂=>wpAny (model X.prog X.w) X.A (f v u) Q X.xe s₂) X.xe s₁) X.xe s:=by
 refine xy (ha pins s σ H _ I h) fun v s1 ⟨x,H1,I1,r1,q1⟩=>?_
 refine xy (hb pins s1 σ H1 _ I1 q1) fun u s2 ⟨y,H2,I2,r2,q2⟩=>?_
 exact hf v u s2 x y H2 I2 r1 r2 q2
theorem qk {op:Operator} {r:R2} (ho:bL X (binaryOp op) r) (ha:PE X a ta) (hb:PE X b tb):PE X (.BinOp a op b pos) (G6 r ta tb):=by
 intro pins s σ H Q I h
 exact wpAny_BinOp (VD ha hb I h fun v u s2 x y H2 I2 rx ry q=>ho pins s2 σ H2 x y v u Q I2 rx ry q)
theorem Vc {op:UnaryOp} {r:V→Hp→VK→Prop} (ho:Hg X (unaryOp op) r) (ha:PE X a ta):PE X (.UnaryOp op a pos) (P6 r ta):=by
 intro pins s σ H Q I h
 exact UnaryOp_ (xy (ha pins s σ H _ I h) fun v s1 ⟨x,H1,I1,r1,q1⟩=>ho pins s1 σ H1 x v Q I1 r1 q1)
theorem G0 {f:Value→Value→Sem Value} {C:Int→Int→Prop} {g:Int→Int→Int}
  (rule:∀(i j:Int) (t u:Tok) (s:Shared) (Q:Value→Shared→Prop) (E:Value→Shared→Prop),C i j→Q (.int (g i j) s.toks) { s with toks:=s.toks + 1 }→wpAny (model X.prog X.w) X.A (f (.int i t) (.int j u)) Q E s) :
  bL X f (rI C fun i j=>.int (g i j)):=by
 intro pins s σ H x y v u Q I rx ry h
 obtain⟨i,j,rfl,rfl,hc,q⟩:=h
 obtain⟨t,rfl⟩:=rx
 obtain⟨t',rfl⟩:=ry
 exact rule i j t t' s _ _ hc ⟨.int (g i j),H,I.tok _,⟨_,rfl⟩,q⟩
theorem Y8 {f:Value→Value→Sem Value} {g:Int→Int→Int}
  (rule:∀(i j:Int) (t u:Tok) (s:Shared) (Q:Value→Shared→Prop) (E:Value→Shared→Prop),Q (.int (g i j) s.toks) { s with toks:=s.toks + 1 }→wpAny (model X.prog X.w) X.A (f (.int i t) (.int j u)) Q E s) :
  bL X f (WW fun i j=>.int (g i j)):=by
 intro pins s σ H x y v u Q I rx ry h
 obtain⟨i,j,rfl,rfl,q⟩:=h
 obtain⟨t,rfl⟩:=rx
 obtain⟨t',rfl⟩:=ry
 exact rule i j t t' s _ _ ⟨.int (g i j),H,I.tok _,⟨_,rfl⟩,q⟩
theorem Wc {f:Value→Value→Sem Value} {g:Int→Int→Bool}
  (rule:∀(i j:Int) (t u:Tok) (s:Shared) (Q:Value→Shared→Prop) (E:Value→Shared→Prop),Q (.bool (g i j)) s→wpAny (model X.prog X.w) X.A (f (.int i t) (.int j u)) Q E s) :
  bL X f (WW fun i j=>.bl (g i j)):=by
 intro pins s σ H x y v u Q I rx ry h
 obtain⟨i,j,rfl,rfl,q⟩:=h
 obtain⟨t,rfl⟩:=rx
 obtain⟨t',rfl⟩:=ry
 exact rule i j t t' s _ _ ⟨.bl (g i j),H,I,rfl,q⟩
noncomputable def G8 (i j:Int):Prop:=0 < j∧j < 1073741824
noncomputable def BB (i j:Int):Prop:=j≠0∧j.natAbs < 1073741824
noncomputable def G9 (i j:Int):Prop:=0≤j∧j≤1000000∧i.natAbs < 2 ^ 64
noncomputable def VG (i j:Int):Prop:=(-(2 ^ 64) < i∧i < 2 ^ 64)∨(-(2 ^ 64) < j∧j < 2 ^ 64)
theorem VG.ok {i j:Int} (h:VG i j):IntMulOk i j:=by
 rcases h with ⟨h1,h2⟩ | ⟨h1,h2⟩
 ·exact .of_left (intBits_le_64 h1 h2)
 ·exact .of_right (intBits_le_64 h1 h2)
theorem xk:bL X (binaryOp .Add) (WW fun i j=>.int (i + j)):=Y8 fun _ _ _ _ _ _ _ q=>add_int q
theorem fF:bL X (binaryOp .Sub) (WW fun i j=>.int (i - j)):=Y8 fun _ _ _ _ _ _ _ q=>sub_int q
theorem uo:bL X (binaryOp .Mult) (rI VG fun i j=>.int (i * j)):=G0 fun _ _ _ _ _ _ _ hc q=>mul_int q hc.ok
theorem kL:bL X (binaryOp .FloorDiv) (rI G8 fun i j=>.int (i / j)):=G0 fun i j _ _ _ _ _ hc q=>by
 have h1:(0:Int) < j:=hc.1
 have h2:j < 1073741824:=hc.2
 exact floordiv_int (by omega) (by rw[Int.fdiv_eq_ediv_of_nonneg i (by omega)];exact q) (.inl (PyProof.noPylong_small (by omega)))
theorem qC:bL X (binaryOp .Mod) (rI (fun _ j=>0 < j) fun i j=>.int (i % j)):=G0 fun i j _ _ _ _ _ hc q=>by
 have h1:(0:Int) < j:=hc
 exact mod_int' (by omega) (by rw[Int.fmod_eq_emod_of_nonneg i (by omega)];exact q)
theorem Wn:bL X (binaryOp .Pow) (rI G9 fun i j=>.int (i ^ j.toNat)):=G0 fun _ _ _ _ _ _ _ hc q=>pow_int_small hc.1 hc.2.1 hc.2.2 q
theorem P7 {f:Value→Sem Value} {g:Int→Int}
  (rule:∀(i:Int) (t:Tok) (s:Shared) (Q:Value→Shared→Prop) (E:Value→Shared→Prop),Q (.int (g i) s.toks) { s with toks:=s.toks + 1 }→wpAny (model X.prog X.w) X.A (f (.int i t)) Q E s) :
  Hg X f (rU fun i=>.int (g i)):=by
 intro pins s σ H x v Q I rx h
 obtain⟨i,rfl,q⟩:=h
 obtain⟨t,rfl⟩:=rx
 exact rule i t s _ _ ⟨.int (g i),H,I.tok _,⟨_,rfl⟩,q⟩
theorem JS:Hg X (unaryOp .USub) (rU fun i=>.int (-i)):=P7 fun _ _ _ _ _ q=>neg_int q
end
noncomputable def Gg:V→V→Bool
 | .non,.non=>true | .non,.int _=>true | .int _,.non=>true | .non,.bl _=>true | .bl _,.non=>true | .non,.str _=>true | .str _,.non=>true
 | .int _,.int _=>true | .bl _,.bl _=>true | .str _,.str _=>true | .byt _,.byt _=>true
 | .int _,.str _=>true | .str _,.int _=>true | .bl _,.str _=>true | .str _,.bl _=>true
 | _,_=>false
noncomputable def PZ:R2:=fun x y H Q=>Gg x y=true∧Q (.bl (decide (x=y))) H
noncomputable def PJ:R2:=fun x y H Q=>Gg x y=true∧Q (.bl (!decide (x=y))) H
theorem eO {i j:Int}:decide (V.int i=V.int j)=(i == j):=by
 rw[Bool.eq_iff_iff]
 simp
theorem Qu {i j:Bool}:decide (V.bl i=V.bl j)=(i == j):=by
 rw[Bool.eq_iff_iff]
 simp
theorem eI {i j:Str}:decide (V.str i=V.str j)=(i == j):=by
 rw[Bool.eq_iff_iff]
 simp
theorem eS {i j:Array UInt8}:decide (V.byt i=V.byt j)=(i.toList == j.toList):=by
 rw[Bool.eq_iff_iff]
 cases i
 cases j
 simp
section
variable {X:Cx} {a b c:Expr} {ta tb tc:TE} {pos:Pos}
theorem jf {pins:List (Addr × Obj)} {σ:St} {H:Hp} {s:Shared} {Q:VK} {k k':Bool} (I:Inv X pins σ H s) (q:Q (.bl k) H) (e:k=k'):EP X pins σ Q (.bool k') s:=by
 subst e
 exact⟨.bl k,H,I,rfl,q⟩
theorem jk:bL X (compareOp .Eq) PZ:=by
 intro pins s σ H x y v u Q I rx ry h
 obtain⟨hs,q⟩:=h
 cases x with
 | non=>
  cases rx
  cases y with
  | non=>cases ry;exact PySem.EqNone.eq_none_none (jf I q (by simp))
  | bl j=>cases ry;exact PySem.EqNone.eq_none_bool (jf I q (by simp))
  | int j=>obtain⟨t',rfl⟩:=ry;exact PySem.EqNone.eq_none_int (jf I q (by simp))
  | str j=>obtain⟨t',rfl⟩:=ry;exact PySem.EqNone.eq_none_str (jf I q (by simp))
  | _=>exact absurd (show false=true from hs) Bool.false_ne_true
 | bl i=>
  cases rx
  cases y with
  | non=>cases ry;exact PySem.EqNone.eq_bool_none (jf I q (by simp))
  | bl j=>cases ry;exact eq_bool (jf I q Qu)
  | str j=>obtain⟨t',rfl⟩:=ry;exact PySem.EqMixed.eq_bool_str (jf I q (by simp))
  | _=>exact absurd (show false=true from hs) Bool.false_ne_true
 | int i=>
  obtain⟨t,rfl⟩:=rx
  cases y with
  | non=>cases ry;exact PySem.EqNone.eq_int_none (jf I q (by simp))
  | int j=>obtain⟨t',rfl⟩:=ry;exact eq_int (jf I q eO)
  | str j=>obtain⟨t',rfl⟩:=ry;exact PySem.EqMixed.eq_int_str (jf I q (by simp))
  | _=>exact absurd (show false=true from hs) Bool.false_ne_true
 | str i=>
  obtain⟨t,rfl⟩:=rx
  cases y with
  | non=>cases ry;exact PySem.EqNone.eq_str_none (jf I q (by simp))
  | bl j=>cases ry;exact PySem.EqMixed.eq_str_bool (jf I q (by simp))
  | int j=>obtain⟨t',rfl⟩:=ry;exact PySem.EqMixed.eq_str_int (jf I q (by simp))
  | str j=>obtain⟨t',rfl⟩:=ry;exact eq_str (jf I q eI)
  | _=>exact absurd (show false=true from hs) Bool.false_ne_true
 | byt i=>
  obtain⟨t,rfl⟩:=rx
  cases y with
  | byt j=>obtain⟨t',rfl⟩:=ry;exact PySem.W.eq_bytes (jf I q eS)
  | _=>exact absurd (show false=true from hs) Bool.false_ne_true
 | _=>cases y<;>exact absurd (show false=true from hs) Bool.false_ne_true
theorem ue:bL X (compareOp .NotEq) PJ:=by
 intro pins s σ H x y v u Q I rx ry h
 obtain⟨hs,q⟩:=h
 cases x with
 | non=>
  cases rx
  cases y with
  | non=>cases ry;exact PySem.EqNone.ne_none_none (jf I q (by simp))
  | bl j=>cases ry;exact PySem.EqNone.ne_none_bool (jf I q (by simp))
  | int j=>obtain⟨t',rfl⟩:=ry;exact PySem.EqNone.ne_none_int (jf I q (by simp))
  | str j=>obtain⟨t',rfl⟩:=ry;exact PySem.EqNone.ne_none_str (jf I q (by simp))
  | _=>exact absurd (show false=true from hs) Bool.false_ne_true
 | bl i=>
  cases rx
  cases y with
  | non=>cases ry;exact PySem.EqNone.ne_bool_none (jf I q (by simp))
  | bl j=>cases ry;exact ne_bool (jf I q (congrArg not Qu))
  | str j=>obtain⟨t',rfl⟩:=ry;exact PySem.EqMixed.ne_bool_str (jf I q (by simp))
  | _=>exact absurd (show false=true from hs) Bool.false_ne_true
 | int i=>
  obtain⟨t,rfl⟩:=rx
  cases y with
  | non=>cases ry;exact PySem.EqNone.ne_int_none (jf I q (by simp))
  | int j=>obtain⟨t',rfl⟩:=ry;exact ne_int (jf I q (congrArg not eO))
  | str j=>obtain⟨t',rfl⟩:=ry;exact PySem.EqMixed.ne_int_str (jf I q (by simp))
  | _=>exact absurd (show false=true from hs) Bool.false_ne_true
 | str i=>
  obtain⟨t,rfl⟩:=rx
  cases y with
  | non=>cases ry;exact PySem.EqNone.ne_str_none (jf I q (by simp))
  | bl j=>cases ry;exact PySem.EqMixed.ne_str_bool (jf I q (by simp))
  | int j=>obtain⟨t',rfl⟩:=ry;exact PySem.EqMixed.ne_str_int (jf I q (by simp))
  | str j=>obtain⟨t',rfl⟩:=ry;exact ne_str (jf I q (congrArg not eI))
  | _=>exact absurd (show false=true from hs) Bool.false_ne_true
 | byt i=>
  obtain⟨t,rfl⟩:=rx
  cases y with
  | byt j=>obtain⟨t',rfl⟩:=ry;exact PySem.W.ne_bytes (jf I q (congrArg not eS))
  | _=>exact absurd (show false=true from hs) Bool.false_ne_true
 | _=>cases y<;>exact absurd (show false=true from hs) Bool.false_ne_true
theorem ur:bL X (compareOp .Lt) (WW fun i j=>.bl (decide (i < j))):=Wc fun _ _ _ _ _ _ _ q=>lt_int q
theorem Vm:bL X (compareOp .LtE) (WW fun i j=>.bl (decide (i≤j))):=Wc fun _ _ _ _ _ _ _ q=>le_int q
theorem ll:bL X (compareOp .Gt) (WW fun i j=>.bl (decide (j < i))):=Wc fun _ _ _ _ _ _ _ q=>gt_int q
theorem Zo:bL X (compareOp .In) (fun x y H Q=>∃i j,x=.str i∧y=.str j∧Q (.bl (!(Builtin.Str.occurrences j i 0 j.length 1).isEmpty)) H):=by
 intro pins s σ H x y v u Q I rx ry h
 obtain⟨i,j,rfl,rfl,q⟩:=h
 obtain⟨t,rfl⟩:=rx
 obtain⟨t',rfl⟩:=ry
 exact in_str (jf I q rfl)
theorem sY:bL X (compareOp .Is) (fun x y H Q=>y=.non∧Q (.bl (decide (x=.non))) H):=by
 intro pins s σ H x y v u Q I rx ry h
 obtain⟨rfl,q⟩:=h
 cases ry
 refine is_none_gen (jf I q ?_)
 cases x<;>first
  | (cases rx;rfl)
  | (obtain⟨t,rfl⟩:=rx;rfl)
theorem sH:bL X (compareOp .IsNot) (fun x y H Q=>y=.non∧Q (.bl (!decide (x=.non))) H):=by
 intro pins s σ H x y v u Q I rx ry h
 obtain⟨rfl,q⟩:=h
 cases ry
 refine isnot_none_gen (jf I q ?_)
 cases x<;>first
  | (cases rx;rfl)
  | (obtain⟨t,rfl⟩:=rx;rfl)
noncomputable def isObj:HO→Bool
 | .lst _=>true
 | .ins _ _ _=>true
 | _=>false
theorem qe (b:Expr) {op:CmpOp} (h:op≠.In:=by decide) (h2:op≠.NotIn:=by decide):behindInMarks op b=false:=by
 have e1:(op == CmpOp.In)=false:=by cases op<;>first | rfl | exact absurd rfl h
 have e2:(op == CmpOp.NotIn)=false:=by cases op<;>first | rfl | exact absurd rfl h2
 cases b<;>simp [behindInMarks,e1,e2]
theorem kX {op:CmpOp} {r:R2} (ho:bL X (compareOp op) r) (ha:PE X a ta) (hb:PE X b tb) (hm:behindInMarks op b=false):PE X (.Compare a [op] [b] pos) (G6 r ta tb):=by
 intro pins s σ H Q I h
 exact wpAny_Compare1 (VD ha hb I h fun v u s2 x y H2 I2 rx ry q=>ho pins s2 σ H2 x y v u Q I2 rx ry q) hm
noncomputable def GX (t:TE):TT:=fun σ H Q=>t σ H fun x H'=>∃k,x=.bl k∧Q k H'
theorem ql {op:CmpOp} {r:R2} (ho:bL X (compareOp op) r) (ha:PE X a ta) (hb:PE X b tb) (hm:behindInMarks op b=false):PT X (.Compare a [op] [b] pos) (GX (G6 r ta tb)):=by
 intro pins s σ H Q I h
 refine wpAny_isTrue_Compare1 (xy (ha pins s σ H _ I h) fun v s1 ⟨x,H1,I1,r1,q1⟩=>xy (hb pins s1 σ H1 _ I1 q1) fun u s2 ⟨y,H2,I2,r2,q2⟩=>
  xy (ho pins s2 σ H2 x y v u _ I2 r1 r2 q2) fun c s3 ⟨z,H3,I3,r3,k,e,q3⟩=>?_) hm
 subst e
 cases r3
 exact wpAny_truthy_bool ⟨H3,I3,q3⟩
noncomputable def W0 (r r':R2) (ta tb tc:TE):TE:=fun σ H Q=>ta σ H fun x H1=>tb σ H1 fun y H2=>r x y H2 fun z H3=>∃k,z=.bl k∧
 (if k=true then tc σ H3 fun w' H4=>r' y w' H4 Q else Q (.bl false) H3)
theorem Q9 {op op':CmpOp} {r r':R2} (ho:bL X (compareOp op) r) (ho':bL X (compareOp op') r') (ha:PE X a ta) (hb:PE X b tb) (hc:PE X c tc)
  (hm:lastMarks [op,op'] [b,c]=false:=by with_unfolding_all rfl):PE X (.Compare a [op,op'] [b,c] pos) (W0 r r' ta tb tc):=by
 intro pins s σ H Q I h
 refine Compare_chain (xy (ha pins s σ H _ I h) fun v s1 ⟨x,H1,I1,r1,q1⟩=>chain_link (xy (hb pins s1 σ H1 _ I1 q1) fun u s2 ⟨y,H2,I2,r2,q2⟩=>
  xy (ho pins s2 σ H2 x y v u _ I2 r1 r2 q2) fun d s3 ⟨z,H3,I3,r3,k,e,q3⟩=>?_)) hm
 subst e
 cases r3
 refine wpAny_truthy_bool ?_
 cases k with
 | false=>exact ite_ff ⟨.bl false,H3,I3,rfl,q3⟩
 | true=>exact ite_tt (chain_last (xy (hc pins s3 σ H3 _ I3 q3) fun w' s4 ⟨z',H4,I4,r4,q4⟩=>ho' pins s4 σ H4 y z' u w' Q I4 r2 r4 q4))
noncomputable def Pg (K:PySem.W.Frag) (x:V) (H:Hp) (k:Bool):Prop:=
 match x with
 | .non=>k=false
 | .bl b=>k=b
 | .int i=>k=(i != 0)
 | .str y=>y.length≤sizeLine∧k=((y.length:Int) != 0)
 | .byt y=>y.size≤sizeLine∧k=((y.size:Int) != 0)
 | .ref p=>(∃xs,jx K H p xs∧k = !xs.isEmpty)∨(∃xs,fz K H p xs∧k = !xs.isEmpty)∨∃kvs,H p=some (.dK kvs)∧k = !kvs.isEmpty
 | _=>False
theorem cI:(sizeLine:Nat) < 2 ^ 63:=by rw[sizeLine_eq];decide
theorem qj:bL X (binaryOp .Add) (fun x y H Q=>∃i j,x=.str i∧y=.str j∧i.length + j.length≤sizeLine∧Q (.str (i ++ j)) H):=by
 intro pins s σ H x y v u Q I rx ry h
 obtain⟨i,j,rfl,rfl,hz,q⟩:=h
 obtain⟨t,rfl⟩:=rx
 obtain⟨t',rfl⟩:=ry
 exact add_str (fun t' tk=>⟨.str (i ++ j),H,I.tok _,⟨_,rfl⟩,q⟩) hz
noncomputable def Yd (b:Expr):Prop:=∀o i,subscripted b false o i=operate [o,i] (getItem o i)
theorem vals1 {x:V} {us:List Value} (r:Vals [x] us):∃u,us=[u]∧RelV x u:=by
 cases r with
 | cons r1 r2=>cases r2;exact⟨_,rfl,r1⟩
theorem vals2 {x y:V} {us:List Value} (r:Vals [x,y] us):∃u w',us=[u,w']∧RelV x u∧RelV y w':=by
 cases r with
 | cons r1 r2=>
  cases r2 with
  | cons r3 r4=>cases r4;exact⟨_,_,rfl,r1,r3⟩
theorem yd:kA X (.type "int") (fun xs H Q=>(∃i,xs=[.int i]∧Q (.int i) H)∨∃k,xs=[.bl k]∧Q (.int (if k then 1 else 0)) H):=by
 intro pins s σ H xs us Q I r h
 rcases h with ⟨i,rfl,q⟩ | ⟨k,rfl,q⟩
 ·obtain⟨u,rfl,t,rfl⟩:=vals1 r
  exact call_int_int ⟨.int i,H,I,⟨_,rfl⟩,q⟩
 ·obtain⟨u,rfl,r1⟩:=vals1 r
  cases r1
  exact call_int_bool ⟨.int (if k then 1 else 0),H,I.tok _,⟨_,rfl⟩,q⟩
theorem lT:kA X (.type "str") (fun xs H Q=>∃i,xs=[.int i]∧i.natAbs.log2 < 1920∧Q (.str (toString i)) H):=by
 intro pins s σ H xs us Q I r h
 obtain⟨i,rfl,hz,q⟩:=h
 obtain⟨u,rfl,t,rfl⟩:=vals1 r
 exact PySem.P.str_of_int hz ⟨.str _,H,I.tok _,⟨_,rfl⟩,q⟩
noncomputable def Pj (K:PySem.W.Frag) (x:V) (H:Hp) (n:Nat):Prop:=
 match x with
 | .str y=>y.length≤sizeLine∧n=y.length
 | .byt y=>y.size≤sizeLine∧n=y.size
 | .ref p=>(∃xs,jx K H p xs∧n=xs.length)∨∃xs,fz K H p xs∧n=xs.length
 | _=>False
end
end L2
namespace L2
open PySem PySem.Spec PyProof.Rows
structure iq (h:Heap) (x dx C:Addr) (mA:Str→Option Value):Prop where
 obj:h.get? x=some (PySem.W.instObj C dx)
 ns:h.Ns1 dx mA
 ne:dx≠x
theorem dm {h:Heap} {dx:Addr} {mA:Str→Option Value} (n:h.Ns1 dx mA):∃od,h.get? dx=some od∧∀name,PySem.W.lookIn name od=some (mA name):=by
 obtain⟨o,es,ep,ho,hd,hk,_,hm⟩:=n
 refine⟨o,ho,fun name=>?_⟩
 have e:=hm name
 unfold nsFind findBy at e
 rw[←Array.find?_toList] at e
 unfold PySem.W.lookIn
 rw[hd]
 dsimp only
 split
 ·rename_i y q
  rw[q] at e
  exact congrArg some e
 ·rename_i q
  rw[q] at e
  have a:es.toList.any (·.refKey)=false:=by
   rw[List.any_eq_false]
   intro y hy
   obtain⟨z,t,hkey⟩:=hk y (Array.mem_toList_iff.mp hy)
   simp [DictEntry.refKey,hkey]
  have a':¬es.toList.any (·.refKey)=true:=by rw[a];exact Bool.false_ne_true
  rw[if_neg a']
  exact congrArg some e
theorem iq.look {h:Heap} {x dx C:Addr} {mA:Str→Option Value} (I:iq h x dx C mA):∃od,PySem.W.InstAt h x (PySem.W.instObj C dx) C (some od)∧∀name,PySem.W.lookIn name od=some (mA name):=
 let ⟨od,ho,hl⟩:=dm I.ns
 ⟨od,⟨I.obj,rfl,rfl,ho⟩,hl⟩
section
variable {prog:Program} {w:World} {A:Around} {E:Value→Shared→Prop} {s:Shared} {K:PySem.W.Frag} {x dx C f:Addr} {mA:Str→Option Value} {name:Str} {v:Value}
theorem get_map {expr:Bool} {Q:Value→Shared→Prop} (X:K.In s.heap) (I:iq s.heap x dx C mA) (hg:PySem.W.plainGet K C name=true) (hh:PySem.W.hasDictIn K C=true)
  (ha:PySem.W.findIn K (.ref C) name=some none) (hv:mA name=some v) (hv':PySem.W.handedIn v=true) (h:Q v { s with toks:=s.toks + 1 }) :
  wpAny (model prog w) A (getAttr (.ref x) name expr) Q E s:=by
 obtain⟨od,J,hl⟩:=I.look
 exact PySem.W.get_value X J (PySem.W.plainGet_of hg).1 (PySem.W.findObj_own hh ha rfl (by rw[hl,hv])) hv' h
theorem QZ {pl:Sem Bool} {Q:Value × List Value→Shared→Prop} (X:K.In s.heap) (I:iq s.heap x dx C mA) (hg:PySem.W.plainGet K C name=true)
  (hf:PySem.W.findIn K (.ref C) name=some (some (.ref f))) (ht:PySem.W.isFn K (.ref f)=true) (hv:mA name=none) (h:Q (.ref f,[.ref x]) s) :
  wpAny (model prog w) A (getMethod (.ref x) name pl) Q E s:=by
 obtain⟨od,J,hl⟩:=I.look
 exact PySem.W.method_fn X J (PySem.W.plainGet_of hg).1 (PySem.W.plainGet_of hg).2 hf (beq_iff_eq.mp ht) (by show (PySem.W.lookIn name od).map (·.isSome)=some false;rw[hl,hv];rfl) h
theorem Kp {ns:List Str} {Q:Unit→Shared→Prop} (X:K.In s.heap) (I:iq s.heap x dx C mA)
  (hs:PySem.W.findIn K (.ref C) "__setattr__" = some (some (.builtin "object.__setattr__"))) (hp:PySem.W.plainOver K C=true) (ht:PySem.W.takerIn K C name=some none) (hh:PySem.W.hasDictIn K C=true)
  (hw:PySem.Within mA ns) (hsz:ns.length≤sizeLine)
  (h:∀h',iq h' x dx C (fun y=>if y=name then some v else mA y)→Heap.SameBut dx s.heap h'→Q () { s with heap:=h',toks:=s.toks + 2 }) :
  wpAny (model prog w) A (setAttr (.ref x) name v) Q E s:=by
 obtain⟨od,J,hl⟩:=I.look
 refine PySem.W.set_plain X J hs (PySem.W.osa_open (s:={ s with toks:=s.toks + 1 }) (r:=none) X J hp ht fun b=>?_)
 obtain⟨cd,hc,hd'⟩:=PySem.W.any_some hh
 have hx:s.heap.get? x=some ⟨.ref C,some dx,.plain,#[]⟩:=I.obj
 refine wpAny_bind (wpAny_pure (wpAny_bind (wpAny_bind (wpAny_loadPart hx (wpAny_bind (PySem.W.Looks.here (s:={ s with toks:=s.toks + 1 }) (PySem.W.looks_clsIn X hc) ?_))))))
 rw[hd']
 refine wpAny_pure (a:=some dx) (wpAny_bind (wpAny_pure (wpAny_bind ?_)))
 refine wpAny_nsSet1 (s:={ s with toks:=s.toks + 1 }) I.ns fun h' hn2 hs2=>?_
 obtain⟨oD,esD,epD,hoD,hdD,hcD⟩:=hn2.count (PySem.Within.cons name v hw)
 refine wpAny_bind (wpAny_lookBehind hoD (by rw[hdD];exact pastItsLine_dict (Nat.le_trans hcD (by rw[List.length_cons];omega))) ?_)
 exact wpAny_pure (h _ ⟨(hs2.2 _ (Ne.symm I.ne)).trans I.obj,hn2,I.ne⟩ hs2)
theorem QU {R:Result→Shared→Prop} {vs:List Value} {kw:List (Str × Value)} (X:K.In s.heap) (hm:PySem.W.makesIn K C=true)
  (hi:PySem.W.findIn K (.ref C) "__init__" = some (some (.ref f))) (hf:PySem.W.typeIn K (.ref f)=some (.type "function"))
  (h:codeAny (model prog w) (A.under (.builtin "type.__call__" ⟨.ref C :: vs,kw⟩)) (.call (.ref f) ⟨.ref (s.heap.objs.size + 1) :: vs,kw⟩) (PySem.W.InitBack (s.heap.objs.size + 1) R)
   { s with heap:=(s.heap.push PySem.W.emptyDict).push (PySem.W.instObj C s.heap.objs.size) }) :
  codeAny (model prog w) A (.call (.ref C) ⟨vs,kw⟩) R s:=by
 obtain⟨hh,g,d,t,os⟩:=s
 exact PySem.W.make_core (PySem.W.makes_of X hm) (PySem.W.looks_findIn X hi) (fun self=>PySem.W.bind_fn X self hf) (.inl rfl) h
end
noncomputable def qP (f:Str) (v:V):List (Str × V)→List (Str × V)
 | []=>[(f,v)]
 | (g,x) :: r=>if g=f then (g,v) :: r else (g,x) :: qP f v r
theorem pz (f g:Str) (v:V):∀fs:List (Str × V),(qP f v fs).lookup g=if g=f then some v else fs.lookup g
 | []=>by
  show List.lookup g [(f,v)]=_
  by_cases h:g=f
  ·have hb:(g == f)=true:=beq_iff_eq.mpr h
   simp only[List.lookup,hb,if_pos h]
  ·have hb:(g == f)=false:=beq_eq_false_iff_ne.mpr h
   simp only[List.lookup,hb,if_neg h]
 | (k,x) :: r=>by
  have ih:=pz f g v r
  rw[show qP f v ((k,x) :: r)=(if k=f then (k,v) :: r else (k,x) :: qP f v r) from rfl]
  by_cases hk:k=f
  ·rw[if_pos hk]
   by_cases h:g=k
   ·have hb:(g == k)=true:=beq_iff_eq.mpr h
    simp only[List.lookup,hb,if_pos (h.trans hk)]
   ·have hb:(g == k)=false:=beq_eq_false_iff_ne.mpr h
    simp only[List.lookup,hb,if_neg (fun e:g=f=>h (e.trans hk.symm))]
  ·rw[if_neg hk]
   by_cases h:g=k
   ·have hb:(g == k)=true:=beq_iff_eq.mpr h
    simp only[List.lookup,hb,if_neg (fun e:g=f=>hk (h.symm.trans e))]
   ·have hb:(g == k)=false:=beq_eq_false_iff_ne.mpr h
    simp only[List.lookup,hb]
    exact ih
theorem gP (f:Str) (v:V):∀fs:List (Str × V),f∈(qP f v fs).map (·.1)∧∀g,g∈fs.map (·.1)→g∈(qP f v fs).map (·.1)
 | []=>⟨by simp [qP],fun g h=>by simp at h⟩
 | (k,x) :: r=>by
  obtain⟨i1,i2⟩:=gP f v r
  rw[show qP f v ((k,x) :: r)=(if k=f then (k,v) :: r else (k,x) :: qP f v r) from rfl]
  by_cases hk:k=f
  ·rw[if_pos hk]
   subst hk
   exact⟨by simp,fun g h=>by simpa using h⟩
  ·rw[if_neg hk]
   refine⟨?_,fun g h=>?_⟩
   ·rw[List.map_cons]
    exact List.mem_cons_of_mem _ i1
   ·rw[List.map_cons] at h ⊢
    rcases List.mem_cons.mp h with e | e
    ·exact List.mem_cons.mpr (.inl e)
    ·exact List.mem_cons_of_mem _ (i2 g e)
theorem xB (f:Str) (v:V):∀fs:List (Str × V),(qP f v fs).length≤fs.length + 1
 | []=>by simp [qP]
 | (k,x) :: r=>by
  have ih:=xB f v r
  rw[show qP f v ((k,x) :: r)=(if k=f then (k,v) :: r else (k,x) :: qP f v r) from rfl]
  by_cases hk:k=f
  ·rw[if_pos hk,List.length_cons,List.length_cons];omega
  ·rw[if_neg hk,List.length_cons,List.length_cons];omega
theorem gW.some_of {v:V} {o:Option Value} (r:gW (some v) o):∃u,o=some u∧RelV v u:=by
 cases o with
 | none=>exact(show False from r).elim
 | some u=>exact⟨u,rfl,r⟩
theorem gW.none_of {o:Option Value} (r:gW none o):o=none:=by
 cases o with
 | none=>rfl
 | some u=>exact(show False from r).elim
theorem rP {v:V} {u:Value} (r:RelV v u):PySem.W.handedIn u=true:=by
 cases v with
 | non=>cases (show u=Value.none from r);rfl
 | bl b=>cases (show u=Value.bool b from r);rfl
 | int i=>obtain⟨t,e⟩:=(show ∃t,u=Value.int i t from r);cases e;rfl
 | str x=>obtain⟨t,e⟩:=(show ∃t,u=Value.str x t from r);cases e;rfl
 | byt b=>obtain⟨t,e⟩:=(show ∃t,u=Value.bytes b t from r);cases e;rfl
 | flt b=>obtain⟨t,e⟩:=(show ∃t,u=Value.float b t from r);cases e;rfl
 | ref a=>cases (show u=Value.ref a from r);rfl
 | ty n=>cases (show u=Value.type n from r);rfl
section
variable {P:Program} {w:World} {H H':Hp} {h h':Heap} {a C dx:Addr} {fs fs':List (Str × V)}
theorem cu (jw:hU P w H h) (e:H a=some (.ins C dx fs)):∃mA,iq h a dx C mA∧(∀f,gW (fs.lookup f) (mA f))∧PySem.Within mA (fs.map (·.1))∧fs.length≤1000∧H dx=some (.own a):=by
 obtain⟨d,z,ne,ob,mA,n,r,q⟩:=(show xx P w H h a (.ins C dx fs) from jw a _ e)
 exact⟨mA,⟨ob,n,ne⟩,r,q,z,d⟩
end
structure cv (K:PySem.W.Frag) (C:Addr):Prop where
 pg:PySem.W.plainGet K C Str.empty=true
 hd:PySem.W.hasDictIn K C=true
 po:PySem.W.plainOver K C=true
 sa:PySem.W.findIn K (.ref C) "__setattr__" = some (some (.builtin "object.__setattr__"))
theorem cv.get {K:PySem.W.Frag} {C:Addr} (c:cv K C) (f:Str):PySem.W.plainGet K C f=true:=c.pg
noncomputable def qH (K:PySem.W.Frag) (C:Addr) (f:Str):Prop:=PySem.W.findIn K (.ref C) f=some none
theorem qH.GG {K:PySem.W.Frag} {C:Addr} {f:Str} (n:qH K C f):PySem.W.takerIn K C f=some none:=by
 unfold PySem.W.takerIn
 rw[show PySem.W.findIn K (.ref C) f=some none from n]
 rfl
structure B8 (K:PySem.W.Frag) (C:Addr) (f:Str) (v:V) (u:Value):Prop where
 at_:PySem.W.findIn K (.ref C) f=some (some u)
 rel:RelV v u
 get:PySem.W.specialIn K u "__get__" = some none
 cp:PySem.W.copiedNames.contains f=false
structure Meth (K:PySem.W.Frag) (C:Addr) (m:Str) (f:Addr):Prop where
 at_:PySem.W.findIn K (.ref C) m=some (some (.ref f))
 fn:PySem.W.isFn K (.ref f)=true
 kp:PySem.W.keepIn K (.ref f)=true
section
variable {X:Cx} {pins:List (Addr × Obj)} {σ:St} {H:Hp} {s:Shared} {a C dx:Addr} {fs:List (Str × V)} {f:Str} {v:V} {A:Around} {E:Value→Shared→Prop}
theorem il {b:Bool} {Q:Value→Shared→Prop} (I:Inv X pins σ H s) (e:H a=some (.ins C dx fs)) (c:cv X.K C) (n:qH X.K C f) (l:fs.lookup f=some v)
  (h:∀u s',Inv X pins σ H s'→RelV v u→Q u s'):wpAny (model X.prog X.w) A (getAttr (.ref a) f b) Q E s:=by
 obtain⟨mA,O,r,_,_,_⟩:=cu I.jw e
 obtain⟨u,hu,ru⟩:=gW.some_of (v:=v) (o:=mA f) (by rw[←l];exact r f)
 exact get_map I.gB O (c.get f) c.hd n hu (rP ru) (h u _ (I.tok _) ru)
theorem fG {m:Str} {g:Addr} {pl:Sem Bool} {Q:Value × List Value→Shared→Prop} (I:Inv X pins σ H s) (e:H a=some (.ins C dx fs)) (c:cv X.K C) (k:Meth X.K C m g) (l:fs.lookup m=none)
  (h:Q (.ref g,[.ref a]) s):wpAny (model X.prog X.w) A (getMethod (.ref a) m pl) Q E s:=by
 obtain⟨mA,O,r,_,_,_⟩:=cu I.jw e
 have hn:mA m=none:=gW.none_of (by rw[←l];exact r m)
 exact QZ I.gB O (c.get m) k.at_ k.fn hn h
theorem iT {y:V} {u:Value} {Q:Unit→Shared→Prop} (I:Inv X pins σ H s) (e:H a=some (.ins C dx fs)) (c:cv X.K C) (n:qH X.K C f) (hl:fs.length < 1000) (ry:RelV y u)
  (h:∀s',Inv X pins σ (upd H a (.ins C dx (qP f y fs))) s'→Q () s'):wpAny (model X.prog X.w) A (setAttr (.ref a) f u) Q E s:=by
 obtain⟨mA,O,r,wi,_,ho⟩:=cu I.jw e
 have hz:(fs.map (·.1)).length≤sizeLine:=by rw[List.length_map,sizeLine_eq];omega
 refine Kp I.gB O c.sa c.po n.GG c.hd wi hz fun h' O' sb=>h _ ?_
 have hd:∃o,h'.get? dx=some o:=let ⟨o,_,_,e',_⟩:=O'.ns;⟨o,e'⟩
 refine I.write (x:=a) (e:=dx) (by rw[e];exact True.intro) (.inr ho) (fun b q hb z=>(sb.2 b hb).trans z) hd ?_
 refine⟨by rw[qB O.ne];exact ho,?_,O.ne,O'.obj,_,O'.ns,fun g=>?_,fun g hg=>?_⟩
 ·have:=xB f y fs;omega
 ·show gW ((qP f y fs).lookup g) (if g=f then some u else mA g)
  rw[pz]
  by_cases q:g=f
  ·rw[if_pos q,if_pos q];exact ry
  ·rw[if_neg q,if_neg q];exact r g
 ·by_cases q:g=f
  ·rw[q];exact(gP f y fs).1
  ·refine(gP f y fs).2 g (wi g fun z=>hg ?_)
   show (if g=f then some u else mA g)=none
   rw[if_neg q];exact z
theorem Inv.made (I:Inv X pins σ H s):Inv X pins σ (upd (upd H s.heap.objs.size (.own (s.heap.objs.size + 1))) (s.heap.objs.size + 1) (.ins C s.heap.objs.size []))
  { s with heap:=(s.heap.push PySem.W.emptyDict).push (PySem.W.instObj C s.heap.objs.size) }:=by
 have e1:(s.heap.push PySem.W.emptyDict).get? s.heap.objs.size=some PySem.W.emptyDict:=Heap.get?_push_size s.heap rfl
 have e2:((s.heap.push PySem.W.emptyDict).push (PySem.W.instObj C s.heap.objs.size)).get? (s.heap.objs.size + 1)=some (PySem.W.instObj C s.heap.objs.size):=by
  have:=Heap.get?_push_size (s.heap.push PySem.W.emptyDict) (o:=PySem.W.instObj C s.heap.objs.size) rfl
  rwa [Heap.size_push] at this
 have e3:(s.heap.push PySem.W.emptyDict).Ns s.heap.objs.size (fun _=>none):=⟨PySem.W.emptyDict,#[],_,e1,rfl,(fun e he=>absurd he (by simp)),fun _=>rfl⟩
 have I1:=I.laid (a:=s.heap.objs.size) (o:=.own (s.heap.objs.size + 1)) (h':=s.heap.push PySem.W.emptyDict) (t':=s.toks) (fun b u q=>Heap.get?_push_of_some _ q) (Nat.le_refl _) ⟨_,e1⟩
 refine I1.laid (a:=s.heap.objs.size + 1) (o:=.ins C s.heap.objs.size []) (t':=s.toks) (fun b u q=>Heap.get?_push_of_some _ q) (Nat.le_of_eq (Heap.size_push _ _)) ?_
 have ne:s.heap.objs.size≠s.heap.objs.size + 1:=Nat.ne_of_lt (Nat.lt_succ_self _)
 refine⟨by rw[qB ne,qr],Nat.zero_le _,ne,e2,fun _=>none,(Heap.Ns1.of_empty e3).at fun o q=>Heap.get?_push_of_some _ q,fun _=>True.intro,fun y hy=>absurd rfl hy⟩
theorem eK {prog:Program} {w:World} {env:Env} {e:Expr} {f:Str} {pos:Pos} {s:Shared} {Q:Value→Shared→Prop} (hb:attributeBase e f env (eval e env)=eval e env)
  (h:wpAny (model prog w) A (eval e env) (fun o s₁=>wpAny (model prog w) A (getAttr o f true) Q E s₁) E s):wpAny (model prog w) A (eval (.Attribute e f pos) env) Q E s:=
 Attribute_any_ h (by rw[arm_eval_Attribute,hb])
end
noncomputable def Bo (K:PySem.W.Frag) (ta:TE) (f:Str):TE:=fun σ H Q=>ta σ H fun x H1=>∃a C dx fs v,x=.ref a∧H1 a=some (.ins C dx fs)∧cv K C∧qH K C f∧fs.lookup f=some v∧Q v H1
noncomputable def PU (K:PySem.W.Frag) (ta:TE) (f:Str):TE:=fun σ H Q=>ta σ H fun x H1=>∃a C dx fs v u,x=.ref a∧H1 a=some (.ins C dx fs)∧cv K C∧B8 K C f v u∧fs.lookup f=none∧Q v H1
noncomputable def Bf (K:PySem.W.Frag) (ta tv:TE) (f:Str):TS:=fun D σ H=>tv σ H fun y H1=>ta σ H1 fun x H2=>∃a C dx fs,x=.ref a∧H2 a=some (.ins C dx fs)∧cv K C∧qH K C f∧fs.length < 1000∧
 D.nx σ (upd H2 a (.ins C dx (qP f y fs)))
noncomputable def Pz (X:Cx) (op:Operator) (rd:V→V→Hp→VK→Prop):Prop:=
 ∀(pins:List (Addr × Obj)) (s:Shared) (σ:St) (H:Hp) (x y:V) (u v:Value) (Q:VK),Inv X pins σ H s→RelV x u→RelV y v→rd x y H Q→wpAny (model X.prog X.w) X.A (inplaceOp op u v) (EP X pins σ Q) X.xe s
noncomputable def G1 (K:PySem.W.Frag) (ta tv:TE) (rd:V→V→Hp→VK→Prop) (f:Str):TS:=fun D σ H=>ta σ H fun x H1=>∃a C dx fs v,x=.ref a∧H1 a=some (.ins C dx fs)∧cv K C∧qH K C f∧fs.lookup f=some v∧
 tv σ H1 fun y H2=>rd v y H2 fun z H3=>∃dx' fs',H3 a=some (.ins C dx' fs')∧fs'.length < 1000∧D.nx σ (upd H3 a (.ins C dx' (qP f z fs')))
section
variable {X:Cx} {o e value:Expr} {f:Str} {pos pos' tpos:Pos} {ta tv:TE}
theorem Wi (he:PE X e ta) (hb:attributeBase e f X.env (eval e X.env)=eval e X.env):PE X (.Attribute e f pos) (Bo X.K ta f):=by
 intro pins s σ H Q I h
 refine eK hb (xy (he pins s σ H _ I h) fun u s1 ⟨x,H1,I1,rx,a,C,dx,fs,v,ex,ea,c,n,l,q⟩=>?_)
 subst ex
 obtain rfl:u=Value.ref a:=rx
 exact il I1 ea c n l fun u' s2 I2 ru=>⟨v,H1,I2,ru,q⟩
theorem xS (ha:PE X o ta) (hv:PE X value tv) (hs:swapsWith value (some (.Attribute o f pos')) pos.line X.env=pure false):PS X (.Assign [.Attribute o f pos'] value pos) (Bf X.K ta tv f):=by
 intro pins s σ H D I h
 refine plainObj_wpAny_Assign_Attribute (xy (hv pins s σ H _ I h) fun u s1 ⟨y,H1,I1,ry,q⟩=>xy (ha pins s1 σ H1 _ I1 q) fun ov s2 ⟨x,H2,I2,rx,a,C,dx,fs,ex,ea,c,n,l,q2⟩=>?_) hs
 subst ex
 obtain rfl:ov=Value.ref a:=rx
 exact iT I2 ea c n l ry fun s3 I3=>⟨σ,_,I3,q2⟩
noncomputable def Pa:V→V→Hp→VK→Prop:=fun x y H Q=>∃i j,x=.int i∧y=.int j∧Q (.int (i + j)) H
noncomputable def PV:V→V→Hp→VK→Prop:=fun x y H Q=>∃i j,x=.int i∧y=.int j∧Q (.int (i - j)) H
theorem K1 {pl:Sem Bool} {m:Str} {apos:Pos} {args:List Expr} {pins:List (Addr × Obj)} {s:Shared} {σ:St} {H:Hp} {Q:Value→Shared→Prop} {te:TE} (he:PE X e te) (I:Inv X pins σ H s)
  (h:te σ H fun x H1=>∃a C dx fs g,x=.ref a∧H1 a=some (.ins C dx fs)∧cv X.K C∧Meth X.K C m g∧fs.lookup m=none∧
   ∀s1,Inv X pins σ H1 s1→wpAny (model X.prog X.w) X.A (callWith pos (.ref g) [.ref a] (backTo pos (starEach args X.env)) (backToKw pos (keywordEach [] X.env))) Q X.xe s1)
  (ht:eval (.Call (.Attribute e m apos) args [] pos) X.env=(do
   let ov ←eval e X.env
   standAt apos.atName
   let (f,first) ←holding [ov] (getMethod ov m pl)
   callWith pos f first (backTo pos (starEach args X.env)) (backToKw pos (keywordEach [] X.env)))) :
  wpAny (model X.prog X.w) X.A (eval (.Call (.Attribute e m apos) args [] pos) X.env) Q X.xe s:=by
 refine PySem.W.methodCall_KW (pl:=pl) (xy (he pins s σ H _ I h) fun u s1 ⟨x,H1,I1,rx,a,C,dx,fs,g,ex,ea,c,k,l,q⟩=>?_) ht
 subst ex
 obtain rfl:u=Value.ref a:=rx
 exact fG I1 ea c k l (q s1 I1)
end
section
variable {X:Cx} {pins:List (Addr × Obj)} {σ:St} {H:Hp} {s:Shared} {A:Around} {E:Value→Shared→Prop} {Q:Value→Shared→Prop} {c:Value} {b:Bool}
inductive bq (K:PySem.W.Frag) (H:Hp):V→Value→Prop where
 | non:bq K H .non (.type "NoneType")
 | bl (x:Bool):bq K H (.bl x) (.type "bool")
 | int (i:Int):bq K H (.int i) (.type "int")
 | str (x:Str):bq K H (.str x) (.type "str")
 | flt (x:UInt64):bq K H (.flt x) (.type "float")
 | lst {a:Addr} {xs:List V} (e:H a=some (.lst xs)):bq K H (.ref a) (.type "list")
 | frz {a:Addr} {o:Obj} {xs:List V} (e:H a=some (.frz o (.lst xs))):bq K H (.ref a) (.type "list")
 | tup {a:Addr} {xs:List V} (e:H a=some (.tup xs)):bq K H (.ref a) (.type "tuple")
 | dK {a:Addr} {kvs:List (Key × V)} (e:H a=some (.dK kvs)):bq K H (.ref a) (.type "dict")
 | dT {a:Addr} {kvs:List (List Key × V)} (e:H a=some (.dT kvs)):bq K H (.ref a) (.type "dict")
 | ins {a C dx:Addr} {fs:List (Str × V)} (e:H a=some (.ins C dx fs)) (cl:cv K C) (ha:PySem.W.findIn K (.ref C) "__class__" = some (some (.builtin "object.__class__")))
   (hn:PySem.W.specialIn K (.builtin "object.__class__") "__get__" = some (some (.builtin "getset_descriptor.__get__"))) (GN:PySem.W.takesIn K (.builtin "object.__class__")=some true)
   (hm:PySem.W.mroIn K C (.type "object")=some true):bq K H (.ref a) (.ref C)
theorem Zy {x:V} {u t:Value} (I:Inv X pins σ H s) (rx:RelV x u) (ty:bq X.K H x t) (e:PySem.W.kitOne X.K t c=some b) (h:∀tk,Q (.bool b) { s with toks:=tk }) :
  wpAny (model X.prog X.w) A (call (.builtin "isinstance") [u,c]) Q E s:=by
 cases ty with
 | non=>cases (show u=Value.none from rx);exact PySem.W.kia_one PySem.W.kitx_none I.gB True.intro e (fun z=>nomatch z) h
 | bl y=>cases (show u=Value.bool y from rx);exact PySem.W.kia_one PySem.W.kitx_bool I.gB True.intro e (fun z=>nomatch z) h
 | int i=>obtain⟨t,q⟩:=(show ∃t,u=Value.int i t from rx);cases q;exact PySem.W.kia_one PySem.W.kitx_int I.gB True.intro e (fun z=>nomatch z) h
 | str y=>obtain⟨t,q⟩:=(show ∃t,u=Value.str y t from rx);cases q;exact PySem.W.kia_one PySem.W.kitx_str I.gB True.intro e (fun z=>nomatch z) h
 | flt y=>obtain⟨t,q⟩:=(show ∃t,u=Value.float y t from rx);cases q;exact PySem.W.kia_one PySem.W.kitx_float I.gB True.intro e (fun z=>nomatch z) h
 | @lst a xs ea=>
  cases (show u=Value.ref a from rx)
  obtain⟨_,_,n,_,h1⟩:=(show xx X.prog X.w H s.heap a (.lst xs) from I.jw a _ ea)
  exact PySem.W.kia_one PySem.W.kitx_list I.gB ⟨_,h1,rfl⟩ e (fun z=>nomatch z) h
 | @frz a ob xs ea=>
  cases (show u=Value.ref a from rx)
  obtain⟨_,_,_,n,_,h1⟩:=(show xx X.prog X.w H s.heap a (.frz ob (.lst xs)) from I.jw a _ ea)
  exact PySem.W.kia_one PySem.W.kitx_list I.gB ⟨_,h1,rfl⟩ e (fun z=>nomatch z) h
 | @tup a xs ea=>
  cases (show u=Value.ref a from rx)
  obtain⟨_,_,_,p⟩:=(show xx X.prog X.w H s.heap a (.tup xs) from I.jw a _ ea)
  obtain⟨o,h1,h2,_⟩:=p
  exact PySem.W.kia_one PySem.W.kitx_tuple I.gB ⟨o,h1,h2⟩ e (fun z=>nomatch z) h
 | @dK a kvs ea=>
  cases (show u=Value.ref a from rx)
  obtain⟨_,_,vs,_,p⟩:=(show xx X.prog X.w H s.heap a (.dK kvs) from I.jw a _ ea)
  obtain⟨o,es,ep,h1,h2,_⟩:=p
  exact PySem.W.kia_one PySem.W.kitx_dict I.gB ⟨o,h1,h2.1⟩ e (fun z=>nomatch z) h
 | @dT a kvs ea=>
  cases (show u=Value.ref a from rx)
  obtain⟨_,_,xs,_,o,es,ep,h1,h2,_⟩:=(show xx X.prog X.w H s.heap a (.dT kvs) from I.jw a _ ea)
  exact PySem.W.kia_one PySem.W.kitx_dict I.gB ⟨o,h1,h2.1⟩ e (fun z=>nomatch z) h
 | @ins a C dx fs ea cl ha hn GN hm=>
  cases (show u=Value.ref a from rx)
  obtain⟨mA,O,_⟩:=cu I.jw ea
  obtain⟨od,J,_⟩:=O.look
  exact PySem.W.kia_one (PySem.W.kitx_own (cl.get _) cl.hd ha hn GN hm) I.gB J e (fun z=>nomatch z) h
end
end L2
namespace L2
open PySem PySem.Spec PyProof.Rows
structure kW (k:Nat) (A:Around):Prop where
 hd:A.handled=none
 dp:A.depth + 3 * k + 5 < recursionLimit
 un:A.units + 16 * k + 200 < cLine
theorem kW.mono {j k:Nat} {A:Around} (r:kW k A) (h:j≤k):kW j A:=⟨r.hd,by have:=r.dp;omega,by have:=r.un;omega⟩
theorem kW.deeper {k:Nat} {A:Around} (r:kW (k + 1) A) (env:Env):kW k (A.deeper env):=
 ⟨r.hd,by have:=r.dp;show A.depth + 1 + 3 * k + 5 < _;omega,by have:=r.un;show A.units + 3 + 16 * k + 200 < _;omega⟩
theorem iX {A:Around} {C:Addr} {us:List Value} {kw:List (Str × Value)}:(A.under (.builtin "type.__call__" ⟨.ref C :: us,kw⟩)).depth=A.depth + 1:=by
 first | rfl | simp [Around.under,Code.weight,Code.isCreation,Code.isGuard,Code.isCaller,Code.frames,Code.isFrame,guardIds]
theorem iK {A:Around} {C:Addr} {us:List Value} {kw:List (Str × Value)}:(A.under (.builtin "type.__call__" ⟨.ref C :: us,kw⟩)).units=A.units + 1:=by
 first | rfl | simp [Around.under,Code.cUnits,Code.frames,Code.isFrame]
theorem kW.make {k:Nat} {A:Around} (r:kW (k + 1) A) (C:Addr) (us:List Value) (kw:List (Str × Value)):kW k (A.under (.builtin "type.__call__" ⟨.ref C :: us,kw⟩)):=
 ⟨r.hd,by have:=r.dp;rw[iX];omega,by have:=r.un;rw[iK];omega⟩
theorem kW.depth {k:Nat} {A:Around} (r:kW k A):A.depth < recursionLimit:=by have:=r.dp;omega
theorem kW.units {k:Nat} {A:Around} (r:kW k A):A.units + 64 < cLine:=by have:=r.un;omega
noncomputable def W5:TA:=fun _ H Q=>Q [] H
noncomputable def Ge (ta:TE) (tr:TA):TA:=fun σ H Q=>ta σ H fun x H1=>tr σ H1 fun xs H2=>Q (x :: xs) H2
section
variable {X:Cx} {e:Expr} {es:List Expr} {te:TE} {t:TA} {pos:Pos}
theorem qz:PA X [] W5:=fun _ _ _ _ H Q I h=>Calls.spliced_nil ⟨[],H,I,.nil,h⟩
theorem z6 (ha:PE X e te) (hr:PA X es t) (hs:starEach (e :: es) X.env=(false,eval e X.env) :: starEach es X.env:=by rfl):PA X (e :: es) (Ge te t):=by
 intro pos pins s σ H Q I h
 rw[hs]
 show wpAny _ _ (spliced ((false,eval e X.env) :: backTo pos (starEach es X.env))) _ _ s
 refine Calls.spliced_cons (xy (ha pins s σ H _ I h) fun u s1 ⟨x,H1,I1,r1,q1⟩=>?_)
 exact xy (hr pos pins s1 σ H1 _ I1 q1) fun us s2 ⟨xs,H2,I2,r2,q2⟩=>⟨x :: xs,H2,I2,.cons r1 r2,q2⟩
noncomputable def BW (t:TA):TE:=fun σ H Q=>t σ H fun xs H1=>xs.length≤sizeLine∧∀p,H1 p=none→Q (.ref p) (upd H1 p (.tup xs))
noncomputable def Ba (t:TA):TE:=fun σ H Q=>t σ H fun xs H1=>xs.length≤sizeLine∧∀p,H1 p=none→Q (.ref p) (upd H1 p (.lst xs))
theorem WZ {x1} (h:PA X es t):PE X (.Tuple es x1 pos) (BW t):=by
 intro pins s σ H Q I hq
 refine wpAny_Tuple_spliced (xy (h pos pins s σ H _ I hq) fun us s1 ⟨xs,H1,I1,r,z,q⟩=>⟨by rw[←r.length];exact z,?_⟩)
 have hf:H1 s1.heap.objs.size=none:=I1.jw.fresh (Nat.le_refl _)
 refine⟨.ref s1.heap.objs.size,upd H1 s1.heap.objs.size (.tup xs),I1.laid (t':=s1.toks) (fun b u e=>Heap.get?_push_of_some _ e) (Nat.le_refl _) ?_,rfl,q _ hf⟩
 exact⟨z,us,r,⟨_,Heap.get?_push_size _ rfl,rfl,_,rfl⟩⟩
theorem We (h:PA X es t):PE X (.List es pos) (Ba t):=by
 intro pins s σ H Q I hq
 refine wpAny_List_spliced (xy (h pos pins s σ H _ I hq) fun us s1 ⟨xs,H1,I1,r,z,q⟩=>⟨by rw[←r.length];exact z,?_⟩)
 have hf:H1 s1.heap.objs.size=none:=I1.jw.fresh (Nat.le_refl _)
 refine⟨.ref s1.heap.objs.size,upd H1 s1.heap.objs.size (.lst xs),I1.laid (t':=s1.toks) (fun b u e=>Heap.get?_push_of_some _ e) (Nat.le_refl _) ?_,rfl,q _ hf⟩
 exact⟨z,us,0,r,Heap.get?_push_size _ rfl⟩
end
noncomputable abbrev Sp:=List V→Hp→VK→XK→Prop
noncomputable abbrev u3:=List Env→Hp→Shared→XK→Value→Shared→Prop
structure tR (P:Program) (w:World) (K:PySem.W.Frag) (mg:Str→Option Value) (base:Heap) (A:Around) (outer:List Env) (s:Shared) (H:Hp):Prop where
 frames:A.frames=some outer
 mod:Mod K mg base
 bs:∀b o,base.get? b=some o→s.heap.get? b=some o∧H b=none
 aI:base.objs.size≤s.heap.objs.size
 dw:s.heap.FunFrames base outer
 KO:∀b∈lA outer,H b=none
 jw:hU P w H s.heap
 bare:AllBare s.gens
noncomputable def CE (outer:List Env) (P:Program) (w:World) (H:Hp) (s:Shared) (Q:VK) (u:Value) (s':Shared):Prop:=
 ∃v H',s'.os=s.os∧AllBare s'.gens∧Un (lA outer) [] H H' s.heap s'.heap∧hU P w H' s'.heap∧RelV v u∧Q v H'
noncomputable def CR (CX:u3) (outer:List Env) (P:Program) (w:World) (H:Hp) (s:Shared) (Q:VK) (E:XK) (r:Result) (s':Shared):Prop:=
 match r with
 | .ok (.ret u)=>CE outer P w H s Q u s'
 | .ok _=>False
 | .error e=>CX outer H s E e s'
structure qW (P:Program) (w:World) (K:PySem.W.Frag) (mg:Str→Option Value) (base:Heap) (CX:u3) (k:Nat) (f:Addr) (fd:FuncData) (ps:List Str) (sp:Sp):Prop where
 len:∀vs H Q E,sp vs H Q E→vs.length=ps.length
 run:∀(A:Around) (outer:List Env) (s:Shared) (H:Hp) (args:Args) (us:List Value) (vs:List V) (Q:VK) (E:XK),kW k A→tR P w K mg base A outer s H→BindsTo s fd args (ps.zip us)→Vals vs us→sp vs H Q E→
  codeAny (model P w) A (.call (.ref f) args) (CR CX outer P w H s Q E) s
theorem qW.mono {P:Program} {w:World} {K:PySem.W.Frag} {mg:Str→Option Value} {base:Heap} {CX:u3} {j k:Nat} {f:Addr} {fd:FuncData} {ps:List Str} {sp:Sp} (F:qW P w K mg base CX j f fd ps sp) (h:j≤k) :
  qW P w K mg base CX k f fd ps sp:=⟨F.len,fun A outer s H args us vs Q E hr=>F.run A outer s H args us vs Q E (hr.mono h)⟩
theorem tR.make {P:Program} {w:World} {K:PySem.W.Frag} {mg:Str→Option Value} {base:Heap} {A:Around} {outer:List Env} {s:Shared} {H:Hp} (e:tR P w K mg base A outer s H) (C:Addr) (us:List Value) (kw:List (Str × Value)) :
  tR P w K mg base (A.under (.builtin "type.__call__" ⟨.ref C :: us,kw⟩)) outer s H:=⟨by first | exact e.frames | (simpa [Around.under,Code.envs,Code.isFrame,pushEnvs] using e.frames),e.mod,e.bs,e.aI,e.dw,e.KO,e.jw,e.bare⟩
section
variable {X:Cx} {pins:List (Addr × Obj)} {σ:St} {H:Hp} {s s':Shared}
theorem Inv.Xp (I:Inv X pins σ H s):tR X.prog X.w X.K X.mg X.base X.A X.stack s H:=
 ⟨I.ok.frames,I.ok.mod,I.bs,Nat.le_trans I.ok.aI I.sz,I.stack,I.p5,I.jw,I.bare⟩
theorem Inv.after {Q:VK} {u:Value} (I:Inv X pins σ H s) (h:CE X.stack X.prog X.w H s Q u s'):EP X pins σ Q u s':=by
 obtain⟨v,H',os,bare,un,jw,r,q⟩:=h
 obtain⟨hh,g,d,t,os'⟩:=s'
 obtain rfl:os'=s.os:=os
 exact⟨v,H',I.call (h':=hh) (g':=g) (d':=d) (t':=t) (ch:=[]) un jw bare (fun b z=>absurd z (by simp)),r,q⟩
end
noncomputable def JD (sp:Sp) (dvs:List V) (E:XK) (t:TA):TE:=fun σ H Q=>t σ H fun vs H1=>sp (vs ++ dvs) H1 Q E
noncomputable def B1 (C:Addr) (m:Str) (sp:Sp) (dvs:List V) (E:XK) (ta:TE) (t:TA):TE:=fun σ H Q=>ta σ H fun x H1=>∃a dx fs,x=.ref a∧H1 a=some (.ins C dx fs)∧fs.lookup m=none∧
 t σ H1 fun vs H2=>sp (x :: (vs ++ dvs)) H2 Q E
noncomputable def Va (C:Addr) (sp:Sp) (dvs:List V) (E:XK) (t:TA):TE:=fun σ H Q=>t σ H fun vs H1=>∀x dx,H1 x=none→H1 dx=none→dx≠x→
 sp (.ref x :: (vs ++ dvs)) (upd (upd H1 dx (.own x)) x (.ins C dx [])) (fun v H2=>v=.non∧Q (.ref x) H2) E
noncomputable def Binds (K:PySem.W.Frag) (fd:FuncData) (ps:List Str) (ds:List Value):Prop:=
 ∀(s:Shared) (us:List Value),K.In s.heap→(us ++ ds).length=ps.length→BindsTo s fd ⟨us,[]⟩ (ps.zip (us ++ ds))
theorem Binds.all {K:PySem.W.Frag} {fd:FuncData} {ps:List Str} (h:∀us:List Value,us.length=ps.length→bindArgs fd ⟨us,[]⟩=pure (ps.zip us)):Binds K fd ps []:=fun s us _ hl=>by
 rw[List.append_nil] at hl ⊢
 exact .of_eq (h us hl)
noncomputable def Passes (CX:u3) (X:Cx) (E:XK):Prop:=∀(pins:List (Addr × Obj)) (σ:St) (H:Hp) (s:Shared) (e:Value) (s':Shared),Inv X pins σ H s→CX X.stack H s E e s'→X.xe e s'
section
variable {X:Cx} {CX:u3} {k:Nat} {f C:Addr} {fd:FuncData} {ps:List Str} {sp:Sp} {dvs:List V} {ds:List Value} {E:XK} {x m:Str} {p pos apos:Pos} {e o:Expr} {es:List Expr} {ta:TE} {t:TA}
theorem sI {pins:List (Addr × Obj)} {σ:St} {H:Hp} {s:Shared} {Q:VK} {us:List Value} {vs:List V} (F:qW X.prog X.w X.K X.mg X.base CX k f fd ps sp) (hr:kW k X.A) (hb:Binds X.K fd ps ds) (hd:Vals dvs ds) (hx:Passes CX X E)
  (I:Inv X pins σ H s) (r:Vals vs us) (h:sp (vs ++ dvs) H Q E):wpAny (model X.prog X.w) X.A (call (.ref f) us) (EP X pins σ Q) X.xe s:=by
 have r2:Vals (vs ++ dvs) (us ++ ds):=r.append hd
 have hl:(us ++ ds).length=ps.length:=by rw[←r2.length];exact F.len _ _ _ _ h
 refine wpAny_call (codeAny_mono (F.run X.A X.stack s H ⟨us,[]⟩ (us ++ ds) (vs ++ dvs) Q E hr I.Xp (hb s us I.gB hl) r2 h) fun r s' hq=>?_)
 cases r with
 | error e=>exact hx pins σ H s e s' I hq
 | ok fl=>
  cases fl with
  | ret u=>exact I.after hq
  | next=>exact False.elim hq
  | brk=>exact False.elim hq
  | cont=>exact False.elim hq
theorem qZ (F:qW X.prog X.w X.K X.mg X.base CX k f fd ps sp) (hr:kW k X.A) (hg:Gl X x) (hm:X.mg x=some (.ref f)) (hk:PySem.W.keepIn X.K (.ref f)=true) (hb:Binds X.K fd ps ds) (hd:Vals dvs ds) (hx:Passes CX X E)
  (ha:PA X (e :: es) t) (hdb:(x == ("__debug__" : Str))=false:=by decide) (he:starEach (e :: es) X.env=(false,eval e X.env) :: starEach es X.env:=by rfl) (hpl:(backTo pos (starEach es X.env)).any (·.1)=false:=by rfl) :
  PE X (.Call (.Name x p) (e :: es) [] pos) (JD sp dvs E t):=by
 intro pins s σ H Q I h
 refine wpAny_Call_Name_kw (gb I hg hm ?_ hdb)
 refine PySem.W.callWith_K (h₀:=X.base) I.ok.mod.ZA hk (xy (ha pos pins s σ H _ I h) fun us s1 ⟨vs,H1,I1,r,q⟩=>⟨I1.gB,?_⟩) he hpl
 exact sI F hr hb hd hx I1 r q
structure Mk (K:PySem.W.Frag) (C f:Addr):Prop where
 makes:PySem.W.makesIn K C=true
 init:PySem.W.findIn K (.ref C) "__init__" = some (some (.ref f))
 fn:PySem.W.isFn K (.ref f)=true
 kp:PySem.W.keepIn K (.ref C)=true
theorem oW {pins:List (Addr × Obj)} {σ:St} {H:Hp} {s:Shared} {Q:VK} {us:List Value} {vs:List V} (M:Mk X.K C f) (F:qW X.prog X.w X.K X.mg X.base CX k f fd ps sp) (hr:kW (k + 1) X.A) (hb:Binds X.K fd ps ds) (hd:Vals dvs ds)
  (hx:Passes CX X E) (I:Inv X pins σ H s) (r:Vals vs us)
  (h:∀x dx,H x=none→H dx=none→dx≠x→sp (.ref x :: (vs ++ dvs)) (upd (upd H dx (.own x)) x (.ins C dx [])) (fun v H2=>v=.non∧Q (.ref x) H2) E) :
  wpAny (model X.prog X.w) X.A (call (.ref C) us) (EP X pins σ Q) X.xe s:=by
 have hq:=h (s.heap.objs.size + 1) s.heap.objs.size (I.jw.fresh (Nat.le_succ _)) (I.jw.fresh (Nat.le_refl _)) (Nat.ne_of_lt (Nat.lt_succ_self _))
 have I2:=Inv.made (C:=C) I
 have r2:Vals (V.ref (s.heap.objs.size + 1) :: (vs ++ dvs)) (Value.ref (s.heap.objs.size + 1) :: (us ++ ds)):=.cons rfl (r.append hd)
 have hl:(Value.ref (s.heap.objs.size + 1) :: us ++ ds).length=ps.length:=by
  have e:=r2.length
  rw[F.len _ _ _ _ hq] at e
  exact e.symm
 refine wpAny_call (QU (f:=f) I.gB M.makes M.init (beq_iff_eq.mp M.fn) (codeAny_mono (F.run _ X.stack _ _ ⟨Value.ref (s.heap.objs.size + 1) :: us,[]⟩ (Value.ref (s.heap.objs.size + 1) :: (us ++ ds)) _ _ E (hr.make C us [])
  (I2.Xp.make C us []) (hb _ (Value.ref (s.heap.objs.size + 1) :: us) I2.gB hl) r2 hq) fun r s' hq'=>?_))
 cases r with
 | error e=>exact hx pins σ _ _ e s' I2 hq'
 | ok fl=>
  cases fl with
  | ret u=>
   obtain⟨v,H',I3,rv,ev,q3⟩:=I2.after hq'
   subst ev
   exact⟨rv,⟨V.ref (s.heap.objs.size + 1),H',I3,rfl,q3⟩⟩
  | next=>exact False.elim hq'
  | brk=>exact False.elim hq'
  | cont=>exact False.elim hq'
theorem wg (M:Mk X.K C f) (F:qW X.prog X.w X.K X.mg X.base CX k f fd ps sp) (hr:kW (k + 1) X.A) (hg:Gl X x) (hm:X.mg x=some (.ref C)) (hb:Binds X.K fd ps ds) (hd:Vals dvs ds) (hx:Passes CX X E)
  (ha:PA X (e :: es) t) (hdb:(x == ("__debug__" : Str))=false:=by decide) (he:starEach (e :: es) X.env=(false,eval e X.env) :: starEach es X.env:=by rfl) (hpl:(backTo pos (starEach es X.env)).any (·.1)=false:=by rfl) :
  PE X (.Call (.Name x p) (e :: es) [] pos) (Va C sp dvs E t):=by
 intro pins s σ H Q I h
 refine wpAny_Call_Name_kw (gb I hg hm ?_ hdb)
 refine PySem.W.callWith_K (h₀:=X.base) I.ok.mod.ZA M.kp (xy (ha pos pins s σ H _ I h) fun us s1 ⟨vs,H1,I1,r,q⟩=>⟨I1.gB,?_⟩) he hpl
 exact oW M F hr hb hd hx I1 r q
theorem Jq (M:Mk X.K C f) (F:qW X.prog X.w X.K X.mg X.base CX k f fd ps sp) (hr:kW (k + 1) X.A) (hg:Gl X x) (hm:X.mg x=some (.ref C)) (hb:Binds X.K fd ps ds) (hd:Vals dvs ds) (hx:Passes CX X E)
  (hdb:(x == ("__debug__" : Str))=false:=by decide):PE X (.Call (.Name x p) [] [] pos) (Va C sp dvs E W5):=by
 intro pins s σ H Q I h
 refine wpAny_Call_Name_kw (gb I hg hm ?_ hdb)
 exact PySem.W.callWith_K0 I.gB M.kp (oW (us:=[]) M F hr hb hd hx I .nil h)
end
noncomputable def PK (X:Cx) (kws:List Keyword) (t:TA):Prop:=
 ∀(pos:Pos) (pins:List (Addr × Obj)) (s:Shared) (σ:St) (H:Hp) (Q:List V→Hp→Prop),Inv X pins σ H s→t σ H Q→wpAny (model X.prog X.w) X.A (evalAll ((backToKw pos (keywordEach kws X.env)).map (·.2))) (AP X pins σ Q) X.xe s
section
variable {X:Cx} {CX:u3} {k:Nat} {f C:Addr} {fd:FuncData} {ps ks:List Str} {sp:Sp} {E:XK} {x m:Str} {p pos apos kpos:Pos} {e o:Expr} {es:List Expr} {kws:List Keyword} {te ta:TE} {t tk:TA} {nm:Option Str}
structure Hk (K:PySem.W.Frag) (fd:FuncData) (ps ks:List Str) (g:List Value→List Value→List Value) (gV:List V→List V→List V):Prop where
 to:∀(s:Shared) (us ws:List Value),K.In s.heap→(g us ws).length=ps.length→BindsTo s fd ⟨us,ks.zip ws⟩ (ps.zip (g us ws))
 rel:∀{vs:List V} {us:List Value} {zs:List V} {ws:List Value},Vals vs us→Vals zs ws→Vals (gV vs zs) (g us ws)
noncomputable def Bc (sp:Sp) (gV:List V→List V→List V) (E:XK) (t tk:TA):TE:=fun σ H Q=>t σ H fun vs H1=>tk σ H1 fun zs H2=>sp (gV vs zs) H2 Q E
variable {g:List Value→List Value→List Value} {gV:List V→List V→List V}
end
structure qV (N P:List Str) (sc:Scope):Prop where
 kind:sc.kind=.function
 co:sc.isCoroutine=false
 gen:sc.isGenerator=false
 nd:N.Nodup
 pre:N.take P.length=P
 par:∀x∈P,sc.names.lookup x=some .local∨sc.names.lookup x=some .cell
 Wm:∀y∈sc.names,y.2≠.free
theorem rV {kindOf:Str→Option NameKind} {x:Str}:∀{binds:List (Str × Value)} {m:Str→Option Value},(∀v,(x,v)∉binds)→bindL kindOf binds m x=m x
 | [],_,_=>rfl
 | (n,v) :: r,m,h=>by
  unfold bindL
  rw[rV fun w hw=>h w (List.mem_cons_of_mem _ hw)]
  split
  ·have:x≠n:=by rintro rfl;exact h v List.mem_cons_self
   simp [this]
  ·rfl
theorem rX {kindOf:Str→Option NameKind} {x:Str}:∀{binds:List (Str × Value)} {m:Str→Option Value},(∀v,(x,v)∉binds)→bindC kindOf binds m x=m x
 | [],_,_=>rfl
 | (n,v) :: r,m,h=>by
  unfold bindC
  rw[rX fun w hw=>h w (List.mem_cons_of_mem _ hw)]
  split
  ·rfl
  ·have:x≠n:=by rintro rfl;exact h v List.mem_cons_self
   simp [this]
theorem rK {kindOf:Str→Option NameKind} {x:Str} {v:Value}:∀{P:List Str} {vs:List Value} {i:Nat} {m:Str→Option Value},P.Nodup→P[i]?=some x→vs[i]?=some v→kindOf x=some .local→
  bindL kindOf (P.zip vs) m x=some v
 | [],_,_,_,_,h,_,_=>by simp at h
 | _ :: _,[],_,_,_,_,h,_=>by simp at h
 | p :: P,w :: vs,0,m,nd,h1,h2,hk=>by
  simp at h1 h2;subst h1;subst h2
  show bindL kindOf ((p,w) :: P.zip vs) m p=_
  unfold bindL
  rw[rV fun v hv=>(List.nodup_cons.mp nd).1 (List.of_mem_zip hv).1,if_pos hk]
  simp
 | p :: P,w :: vs,i + 1,m,nd,h1,h2,hk=>by
  show bindL kindOf ((p,w) :: P.zip vs) m x=_
  unfold bindL
  exact rK (i:=i) (List.nodup_cons.mp nd).2 (by simpa using h1) (by simpa using h2) hk
theorem rJ {kindOf:Str→Option NameKind} {x:Str} {v:Value}:∀{P:List Str} {vs:List Value} {i:Nat} {m:Str→Option Value},P.Nodup→P[i]?=some x→vs[i]?=some v→kindOf x≠some .local→
  bindC kindOf (P.zip vs) m x=some v
 | [],_,_,_,_,h,_,_=>by simp at h
 | _ :: _,[],_,_,_,_,h,_=>by simp at h
 | p :: P,w :: vs,0,m,nd,h1,h2,hk=>by
  simp at h1 h2;subst h1;subst h2
  show bindC kindOf ((p,w) :: P.zip vs) m p=_
  unfold bindC
  rw[rX fun v hv=>(List.nodup_cons.mp nd).1 (List.of_mem_zip hv).1,if_neg hk]
  simp
 | p :: P,w :: vs,i + 1,m,nd,h1,h2,hk=>by
  show bindC kindOf ((p,w) :: P.zip vs) m x=_
  unfold bindC
  exact rJ (i:=i) (List.nodup_cons.mp nd).2 (by simpa using h1) (by simpa using h2) hk
noncomputable def start (N:List Str) (vs:List V):St:=vs.map some ++ List.replicate (N.length - vs.length) none
noncomputable def lO (CX:u3) (P:Program) (w:World) (K:PySem.W.Frag) (mg:Str→Option Value) (base:Heap) (N:List Str) (qual:Str) (scope:Scope) (f:Addr) (cd:Value) (A:Around) (outer:List Env) (s:Shared) (H:Hp) (E:XK):Cx where
 prog:=P
 w:=w
 K:=K
 mg:=mg
 base:=base
 A:=A.deeper (envOfC qual scope s.heap.objs.size f cd)
 N:=N
 s₀:=s
 H₀:=H
 env:=envOfC qual scope s.heap.objs.size f cd
 outer:=outer
 stack:=envOfC qual scope s.heap.objs.size f cd :: outer
 ex:=[]
 calm:=true
 fn:=fun _=>true
 pn:=[]
 xe:=fun e s'=>wpAny (model P w) (A.deeper (envOfC qual scope s.heap.objs.size f cd)) (leaving (envOfC qual scope s.heap.objs.size f cd) e) (fun _ s''=>CX outer H s E e s'') (fun e' s''=>CX outer H s E e' s'') s'
theorem tE {sc:Scope} {n:Nat} {x:Str} (h:sc.names.lookup x=some .cell):∃c,(cellsFrom n sc.names []).lookup x=some c:=by
 have q:=PySem.W.cellsFrom_some sc.names n [] (.inl h)
 exact Option.isSome_iff_exists.mp q
theorem Zw {CX:u3} {P:Program} {w:World} {K:PySem.W.Frag} {mg:Str→Option Value} {base:Heap} {N ps:List Str} {qual:Str} {scope:Scope} {f:Addr} {cd:Value} {A:Around} {outer:List Env} {s s1:Shared} {H:Hp} {E:XK} {us:List Value} {vs:List V}
  (S:qV N ps scope) (hd:A.handled=none) (e0:tR P w K mg base A outer s H) (hl:vs.length=ps.length) (r:Vals vs us)
  (x:InCallC s s.heap.objs.size (bindL (envOfC qual scope s.heap.objs.size f cd).kindOf (ps.zip us) fun _=>none) (cellsFrom (s.heap.objs.size + 1) scope.names []) (bindC (envOfC qual scope s.heap.objs.size f cd).kindOf (ps.zip us) fun _=>none) s1) :
  Inv (lO CX P w K mg base N qual scope f cd A outer s H E) [] (start N vs) H s1:=by
 have hpl:ps.length≤N.length:=by have:=congrArg List.length S.pre;rw[List.length_take] at this;omega
 obtain⟨h1,tk,rfl,hk⟩:=x.done
 have noA:∀b:Addr,b∉(lO CX P w K mg base N qual scope f cd A outer s H E).ex:=fun b z=>absurd (show b∈([]:List Addr) from z) (by simp)
 refine⟨⟨e0.mod,S.kind,rfl,rfl,Nat.le_refl _,fun y z c h1 h2=>?_,fun y hy=>?_,fun y c _ h=>?_,fun _=>hd,Around.frames_deeper e0.frames,.inr ⟨rfl,rfl⟩,fun b z=>absurd z (noA b),e0.bs,e0.aI,fun b _ _=>noA b,fun b z=>absurd z (noA b),e0.dw,e0.KO⟩,
  rfl,e0.bare,Un.kept hk,⟨_,x.toInCall.ns,fun i y v h1 h2 h3=>?_⟩,fun y c h=>⟨_,x.cell y c h⟩,e0.jw.fresh (Nat.le_refl _),fun y c h=>?_,fun p hp=>absurd (show p∈([]:List (Addr × Obj)) from hp) (by simp),e0.jw.kept hk,?_⟩
 ·exact name_of_addr x.apart (PySem.mem_of_lookup h1) (PySem.mem_of_lookup h2)
 ·have hy:scope.names.lookup y=some .cell∨scope.names.lookup y=some .free:=hy
  rcases hy with hy | hy
  ·exact tE hy
  ·exact absurd rfl (S.Wm _ (PySem.mem_of_lookup hy))
 ·exact Nat.le_of_lt (x.above y c (PySem.mem_of_lookup h))
 ·have hi:i < vs.length:=by
   unfold start at h2
   by_cases hi:i < vs.length
   ·exact hi
   ·rw[List.getElem?_append_right (by simpa using hi)] at h2
    rw[List.getElem?_replicate] at h2
    split at h2<;>cases h2
  have ha:vs[i]?=some v:=by
   unfold start at h2
   rw[List.getElem?_append_left (by simpa using hi),List.getElem?_map] at h2
   cases e:vs[i]? with
   | none=>rw[e] at h2;cases h2
   | some a=>rw[e] at h2;cases h2;rfl
  obtain⟨u,hu,rv⟩:=r.get ha
  have hp:ps[i]?=some y:=by
   rw[←S.pre,List.getElem?_take_of_lt (by omega)];exact h1
  have ndP:ps.Nodup:=by rw[←S.pre];exact S.nd.sublist (List.take_sublist _ _)
  refine⟨u,rv,?_⟩
  rcases S.par y (List.mem_of_getElem? hp) with k | k
  ·exact .inl ⟨k,rK ndP hp hu k⟩
  ·obtain⟨c,e⟩:=tE (n:=s.heap.objs.size + 1) k
   refine .inr ⟨.inl k,c,e,?_⟩
   have q:=x.cell y c e
   rw[rJ ndP hp hu (by show scope.names.lookup y≠_;rw[k];decide)] at q
   exact q
 ·exact e0.jw.fresh (Nat.le_of_lt (x.above y c (PySem.mem_of_lookup h)))
 ·unfold start
  show _=N.length
  rw[List.length_append,List.length_map,List.length_replicate]
  omega
theorem KN {CX:u3} {P:Program} {w:World} {K:PySem.W.Frag} {mg:Str→Option Value} {base:Heap} {k:Nat} {f:Addr} {name qual:Str} {params:Arguments} {body:List Stmt} {scope:Scope} {dV kV doc pm cdv ct oc:Value} {an od:Option Addr}
  {osl:Array (Option Value)} {N ps:List Str} {sp:Sp} (lk:K.lookup f=some ⟨oc,od,.func (PySem.W.fnOf name qual params body scope dV kV doc pm an cdv ct),osl⟩) (hcd:PySem.W.codeIn K cdv qual=true) (S:qV N ps scope)
  (len:∀vs H Q E,sp vs H Q E→vs.length=ps.length)
  (hbody:∀(A:Around) (outer:List Env) (s:Shared) (H:Hp) (vs:List V) (Q:VK) (E:XK),kW k (A.deeper (envOfC qual scope s.heap.objs.size f cdv))→sp vs H Q E→
   ∃t,ij (lO CX P w K mg base N qual scope f cdv A outer s H E) body t∧t { nx:=fun _ H'=>Q .non H',rt:=Q } (start N vs) H) :
  qW P w K mg base CX (k + 1) f (PySem.W.fnOf name qual params body scope dV kV doc pm an cdv ct) ps sp:=by
 refine⟨len,fun A outer s H args us vs Q E hr e0 hb r hsp=>?_⟩
 have hl:=len _ _ _ _ hsp
 have KX:K.In s.heap:=e0.mod.ZA.keeps fun b o e=>(e0.bs b o e).1
 have lim:s.heap.NoLimit:=e0.mod.nolimit.keeps fun b o e=>(e0.bs b o e).1
 have hkind:∀y∈ps.zip us,scope.names.lookup y.1=some .local∨(scope.names.lookup y.1=some .cell∧((cellsFrom (s.heap.objs.size + 1) scope.names []).lookup y.1).isSome=true):=fun ⟨n,v⟩ hy=>by
  rcases S.par n (List.of_mem_zip hy).1 with q | q
  ·exact .inl q
  ·exact .inr ⟨q,PySem.W.cellsFrom_some _ _ _ (.inl q)⟩
 refine codeAny_call_function hr.depth (KX _ _ lk) rfl S.co S.gen rfl (PySem.W.codeRec_of KX hcd) (hb _ _ _ _ ?_)
 refine wpAny_newFunctionEnv_cells S.kind hkind fun env he s1 x=>?_
 subst he
 refine⟨lim.keeps x.toInCall.keep,codeAny_func ?_⟩
 obtain⟨t,ht,hq⟩:=hbody A outer s H vs Q E (hr.deeper _) hsp
 have I:Inv (lO CX P w K mg base N qual scope f cdv A outer s H E) [] (start N vs) H s1:=Zw S hr.hd e0 hl r x
 refine wpAny_mono (ht [] s1 (start N vs) H _ I hq) (fun fl s' hs=>?_) fun e s' hs=>hs
 have fin:∀{σ':St} {H':Hp} {v:V} {u:Value},Inv (lO CX P w K mg base N qual scope f cdv A outer s H E) [] σ' H' s'→RelV v u→Q v H'→CE outer P w H s Q u s':=
  fun {σ' H' v u} J rv q=>⟨v,H',J.os,J.bare,J.base,J.jw,rv,q⟩
 cases fl with
 | ret u=>
  obtain⟨v,σ',H',J,rv,q⟩:=hs
  exact fin J rv q
 | next=>
  obtain⟨σ',H',J,q⟩:=hs
  exact fin (v:=V.non) (u:=Value.none) J rfl q
 | brk=>
  obtain⟨_,_,_,q⟩:=hs
  exact False.elim q
 | cont=>
  obtain⟨_,_,_,q⟩:=hs
  exact False.elim q
end L2
namespace L2
open PySem PySem.Spec PyProof.Rows
section
variable {X:Cx} {x:Str} {p pos:Pos} {e:Expr} {es:List Expr} {t:TA} {id T:String} {r:List V→Hp→VK→Prop}
noncomputable def BI (r:List V→Hp→VK→Prop) (t:TA):TE:=fun σ H Q=>t σ H fun vs H1=>r vs H1 Q
theorem qG (hc:kA X (.builtin id) r) (hg:Gl X x) (hm:X.mg x=none) (hv:bootBuiltins x=some (.builtin id)) (ha:PA X (e :: es) t) (hn:x≠"__name__":=by decide) (hdb:(x == ("__debug__" : Str))=false:=by decide)
  (he:starEach (e :: es) X.env=(false,eval e X.env) :: starEach es X.env:=by rfl) (hpl:(backTo pos (starEach es X.env)).any (·.1)=false:=by rfl):PE X (.Call (.Name x p) (e :: es) [] pos) (BI r t):=by
 intro pins s σ H Q I h
 refine wpAny_Call_Name_kw (df I hg hm hv ?_ hn hdb)
 exact PyProof.Rows.callWith_builtin1 (xy (ha pos pins s σ H _ I h) fun us s1 ⟨vs,H1,I1,r1,q1⟩=>hc pins s1 σ H1 vs us Q I1 r1 q1) he hpl
theorem jI (hc:kA X (.type T) r) (hg:Gl X x) (hm:X.mg x=none) (hv:bootBuiltins x=some (.type T)) (ha:PA X (e :: es) t) (hn:x≠"__name__":=by decide) (hdb:(x == ("__debug__" : Str))=false:=by decide)
  (he:starEach (e :: es) X.env=(false,eval e X.env) :: starEach es X.env:=by rfl) (hpl:(backTo pos (starEach es X.env)).any (·.1)=false:=by rfl):PE X (.Call (.Name x p) (e :: es) [] pos) (BI r t):=by
 intro pins s σ H Q I h
 refine wpAny_Call_Name_kw (df I hg hm hv ?_ hn hdb)
 exact PyProof.Rows.callWith_type1 (xy (ha pos pins s σ H _ I h) fun us s1 ⟨vs,H1,I1,r1,q1⟩=>hc pins s1 σ H1 vs us Q I1 r1 q1) he hpl
end
end L2
namespace HT
open PySem PyProof.Rows
noncomputable def lexLt:List Int→List Int→Bool
 | [],[]=>false
 | [],_ :: _=>true
 | _ :: _,[]=>false
 | x :: xs,y :: ys=>if x=y then lexLt xs ys else decide (x < y)
section
open PySem.SeqAt
open PySem.AutoSeq1 (wpAny_loadPart')
open PySem.MeetsSeq PySem.MeetsSeq2 PySem.MeetsSeq3
end
section
variable {prog:Program} {w:World} {A:Around} {E:Value→Shared→Prop} {s:Shared}
noncomputable def sE (n d:Nat):Option Int→Nat
 | none=>d
 | some v=>if v < 0 then (v + (n:Int)).toNat else min v.toNat n
theorem oY (n d:Nat):sE n d none=d:=rfl
theorem pA (n d k:Nat):sE n d (some (k:Int))=min k n:=by
 show (if (k:Int) < 0 then ((k:Int) + (n:Int)).toNat else min (k:Int).toNat n)=min k n
 rw[if_neg (by omega),Int.toNat_natCast]
end
end HT
namespace L2
open PySem PySem.Spec PyProof.Rows
noncomputable abbrev TO:=St→Hp→(Option Int→Hp→Prop)→Prop
noncomputable def PO (X:Cx) (e:Option Expr) (t:TO):Prop:=
 ∀(pins:List (Addr × Obj)) (s:Shared) (σ:St) (H:Hp) (Q:Option Int→Hp→Prop),Inv X pins σ H s→t σ H Q→
  wpAny (model X.prog X.w) X.A (evalPart e X.env) (fun u s'=>∃o H',Inv X pins σ H' s'∧IsPart u o∧Q o H') X.xe s
noncomputable def Kt:TO:=fun _ H Q=>Q none H
noncomputable def GJ (t:TE):TO:=fun σ H Q=>t σ H fun x H1=>∃i,x=.int i∧Q (some i) H1
section
variable {X:Cx} {e:Expr} {te:TE} {lo hi:Option Expr} {tl th:TO} {pos p2:Pos}
theorem kg:PO X none Kt:=by
 intro pins s σ H Q I h
 rw[evalPart_none]
 exact wpAny_pure ⟨none,H,I,.none,h⟩
theorem jE (h:PE X e te):PO X (some e) (GJ te):=by
 intro pins s σ H Q I hw
 rw[evalPart_some]
 refine xy (h pins s σ H _ I hw) fun u s1 ⟨x,H1,I1,r1,q1⟩=>?_
 obtain⟨i,rfl,q⟩:=q1
 obtain⟨t,rfl⟩:=r1
 exact⟨some i,H1,I1,.int i t,q⟩
noncomputable def KY (X:Cx) (r:V→Option Int→Option Int→Hp→VK→Prop):Prop:=
 ∀(pins:List (Addr × Obj)) (s:Shared) (σ:St) (H:Hp) (x:V) (v vl vu:Value) (lo hi:Option Int) (sl:Addr) (Q:VK),Inv X pins σ H s→RelV x v→s.heap.IsSliceOf sl vl vu .none→IsPart vl lo→IsPart vu hi→r x lo hi H Q→
  ∃T id,typeLookup (.type T) "__getitem__" = pure (some (.builtin id))∧s.TypeIs v T∧wpAny (model X.prog X.w) X.A (getItem v (.ref sl)) (EP X pins σ Q) X.xe s
noncomputable def P4 (r:V→Option Int→Option Int→Hp→VK→Prop) (te:TE) (tl th:TO):TE:=fun σ H Q=>te σ H fun x H1=>tl σ H1 fun l H2=>th σ H2 fun u H3=>r x l u H3 Q
theorem jN {r:V→Option Int→Option Int→Hp→VK→Prop} (hr:KY X r) (he:PE X e te) (hl:PO X lo tl) (hu:PO X hi th):PE X (.Subscript e (.Slice lo hi none p2) pos) (P4 r te tl th):=by
 intro pins s σ H Q I h
 refine Subscript_ (xy (he pins s σ H _ I h) fun v s1 ⟨x,H1,I1,r1,q1⟩=>?_)
 refine wpAny_Slice (xy (hl pins s1 σ H1 _ I1 q1) fun vl s2 ⟨l,H2,I2,pl,q2⟩=>xy (hu pins s2 σ H2 _ I2 q2) fun vu s3 ⟨u,H3,I3,pu,q3⟩=>?_)
 rw[evalPart_none]
 refine wpAny_pure ?_
 have I4:Inv X pins σ H3 { s3 with heap:=s3.heap.push { cls:=.type "slice",data:=.fields #[vl,vu,.none] } }:=I3.kept (t':=s3.toks) fun b ob q=>Heap.get?_push_of_some _ q
 obtain⟨T,id,hT,ht,hg⟩:=hr pins { s3 with heap:=s3.heap.push { cls:=.type "slice",data:=.fields #[vl,vu,.none] } } σ H3 x v vl vu l u s3.heap.objs.size Q I4 r1 (Heap.IsSliceOf.new ..) pl pu q3
 show wpAny (model X.prog X.w) X.A (subscriptTail e (.Slice lo hi none p2) v (.ref s3.heap.objs.size)) (EP X pins σ Q) X.xe { s3 with heap:=s3.heap.push { cls:=.type "slice",data:=.fields #[vl,vu,.none] } }
 exact tail_any (ops:=[.ref s3.heap.objs.size,v]) ht hT hg (by with_unfolding_all rfl)
noncomputable def bE (xs:List V) (lo hi:Option Int):List V:=(xs.drop (HT.sE xs.length 0 lo)).take (HT.sE xs.length xs.length hi - HT.sE xs.length 0 lo)
theorem nZ (xs:List V) (lo hi:Option Int):(bE xs lo hi).length≤xs.length:=by
 unfold bE
 rw[List.length_take,List.length_drop]
 omega
noncomputable def PX (K:PySem.W.Frag):V→Option Int→Option Int→Hp→VK→Prop:=fun x lo hi H Q=>∃a xs,x=.ref a∧fz K H a xs∧
 ¬(HT.sE xs.length 0 lo=0∧HT.sE xs.length xs.length hi=xs.length)∧∀p,H p=none→Q (.ref p) (upd H p (.tup (bE xs lo hi)))
noncomputable def PQ (K:PySem.W.Frag):R2:=fun x y H Q=>∃a b ns ms,x=.ref a∧y=.ref b∧fz K H a (ns.map V.int)∧fz K H b (ms.map V.int)∧Q (.bl (HT.lexLt ns ms)) H
noncomputable def BD (K:PySem.W.Frag):R2:=fun x y H Q=>∃a b xs ys,x=.ref a∧y=.ref b∧fz K H a xs∧fz K H b ys∧xs≠[]∧xs.length + ys.length≤sizeLine∧
 (ys=[]→Q (.ref a) H)∧(ys≠[]→∀p,H p=none→Q (.ref p) (upd H p (.tup (xs ++ ys))))
end
end L2
namespace L2
open PySem PySem.Spec PyProof.Rows
noncomputable def Xt (n:Nat) (i:Int):Option Nat:=if 0≤i then (if i < n then some i.toNat else none) else if -(n:Int)≤i then some (i + n).toNat else none
noncomputable def rz {α:Type} (xs:List α) (i:Int):Option α:=(Xt xs.length i).bind fun j=>xs[j]?
theorem Xn {n:Nat} {i:Int} {j:Nat} (h:Xt n i=some j):seqIndex? i n=some j∧j < n∧-(n:Int)≤i∧i < n:=by
 unfold Xt at h
 by_cases h0:0≤i
 ·rw[if_pos h0] at h
  by_cases h1:i < n
  ·rw[if_pos h1] at h
   have e:i.toNat=j:=Option.some.inj h
   exact⟨by rw[seqIndex_of h0 h1,e],by omega,by omega,h1⟩
  ·rw[if_neg h1] at h;cases h
 ·rw[if_neg h0] at h
  by_cases h1:-(n:Int)≤i
  ·rw[if_pos h1] at h
   have e:(i + n).toNat=j:=Option.some.inj h
   exact⟨by rw[seqIndex_neg (by omega) h1,e],by omega,h1,by omega⟩
  ·rw[if_neg h1] at h;cases h
theorem lD {α:Type} {xs:List α} {i:Int} {v:α} (h:rz xs i=some v):∃j,seqIndex? i xs.length=some j∧xs[j]?=some v∧j < xs.length∧-(xs.length:Int)≤i∧i < xs.length:=by
 unfold rz at h
 cases e:Xt xs.length i with
 | none=>rw[e] at h;cases h
 | some j=>
  rw[e] at h
  obtain⟨h1,h2,h3,h4⟩:=Xn e
  exact⟨j,h1,h,h2,h3,h4⟩
theorem lC {α:Type} {xs:List α} {j:Nat} {v:α} (h:xs[j]?=some v):rz xs (j:Int)=some v:=by
 have hj:j < xs.length:=(List.getElem?_eq_some_iff.mp h).1
 have e:Xt xs.length (j:Int)=some j:=by
  unfold Xt
  rw[if_pos (by omega),if_pos (by omega)];simp
 unfold rz;rw[e];exact h
theorem Qq {α:Type} (xs:List α) (v:α):rz (xs ++ [v]) (-1)=some v:=by
 have hl:(xs ++ [v]).length=xs.length + 1:=by simp
 have e:Xt (xs ++ [v]).length (-1)=some xs.length:=by
  unfold Xt
  rw[hl,if_neg (by decide),if_pos (by omega)]
  congr 1
  omega
 unfold rz
 rw[e]
 show (xs ++ [v])[xs.length]?=some v
 simp
noncomputable def Xz (b:Expr):Prop:=∀o i,subscripted b false o i=operate [o,i] (getItem o i)
noncomputable def Yj (X:Cx) (r:R2):Prop:=
 ∀(value slice:Expr) (pins:List (Addr × Obj)) (s:Shared) (σ:St) (H:Hp) (x y:V) (v u:Value) (Q:VK),Inv X pins σ H s→RelV x v→RelV y u→r x y H Q→
  subscripted slice false v u=operate [v,u] (getItem v u)→wpAny (model X.prog X.w) X.A (subscriptTail value slice v u) (EP X pins σ Q) X.xe s
noncomputable def ZT (X:Cx) (id:String) (r:V→List V→Hp→VK→Prop):Prop:=
 ∀(pins:List (Addr × Obj)) (s:Shared) (σ:St) (H:Hp) (x:V) (xs:List V) (v:Value) (us:List Value) (Q:VK),Inv X pins σ H s→RelV x v→Vals xs us→r x xs H Q→
  wpAny (model X.prog X.w) X.A (call (.builtin id) (v :: us)) (EP X pins σ Q) X.xe s
section
variable {X:Cx} {a b:Expr} {ta tb:TE} {pos:Pos}
theorem qJ {r:R2} (hr:Yj X r) (ha:PE X a ta) (hb:PE X b tb) (hs:Xz b):PE X (.Subscript a b pos) (G6 r ta tb):=by
 intro pins s σ H Q I h
 exact Subscript_ (VD ha hb I h fun v u s2 x y H2 I2 rx ry q=>hr a b pins s2 σ H2 x y v u Q I2 rx ry q (hs _ _))
noncomputable def WY (K:PySem.W.Frag):R2:=fun x y H Q=>∃p xs i v,x=.ref p∧y=.int i∧jx K H p xs∧rz xs i=some v∧Q v H
noncomputable def WG (K:PySem.W.Frag):R2:=fun x y H Q=>∃p xs i v,x=.ref p∧y=.int i∧fz K H p xs∧rz xs i=some v∧Q v H
noncomputable def Gv:R2:=fun x y H Q=>∃z i c,x=.str z∧y=.int i∧z.length≤sizeLine∧rz z.cps.toList i=some c∧Q (.str ⟨#[c]⟩) H
theorem Xo:Yj X (WY X.K):=by
 intro value slice pins s σ H x y v u Q I rx ry h hs
 obtain⟨p,xs,i,z,rfl,rfl,hq,he,q⟩:=h
 cases rx
 obtain⟨t,rfl⟩:=ry
 obtain⟨its,r,pl,hz⟩:=I.list hq
 obtain⟨j,h1,h2,h3,h4,h5⟩:=lD he
 obtain⟨w,ew,rw'⟩:=r.get h2
 have hl:=r.length
 have hn:=cI
 have fin:EP X pins σ Q w s:=⟨z,H,I,rw',q⟩
 by_cases h0:0≤i
 ·have hj:i.toNat=j:=by
   rw[seqIndex_of h0 h5] at h1
   exact Option.some.inj h1
  exact item_listR pl.isList h0 (by omega) (by rw[hj];simpa using ew) fin hs
 ·have hj:(i + (its.toArray.size:Int)).toNat=j:=by
   rw[seqIndex_neg (by omega) h4] at h1
   rw[List.size_toArray,←hl]
   exact Option.some.inj h1
  exact subscriptTail_builtinR (x:=w) pl.isList.typeIs slot_list_getitem.lookup
   (wpAny_getItem_list_neg (Q:=fun r s'=>r=w∧EP X pins σ Q r s') pl.isList (by omega) (by rw[List.size_toArray]<;>omega) (by omega) (by rw[hj];simpa using ew) ⟨rfl,fin⟩) hs
theorem V6:Yj X (WG X.K):=by
 intro value slice pins s σ H x y v u Q I rx ry h hs
 obtain⟨p,xs,i,z,rfl,rfl,hq,he,q⟩:=h
 cases rx
 obtain⟨t,rfl⟩:=ry
 obtain⟨its,r,pl,hz⟩:=I.tuple hq
 obtain⟨j,h1,h2,h3,h4,h5⟩:=lD he
 obtain⟨w,ew,rw'⟩:=r.get h2
 have hl:=r.length
 have hn:=cI
 have fin:EP X pins σ Q w s:=⟨z,H,I,rw',q⟩
 exact subscriptTail_builtinR (x:=w) pl.typeIs slot_tuple_getitem.lookup
  (getItem_tuple (j:=j) (Q:=fun r s'=>r=w∧EP X pins σ Q r s') pl (by omega) (by omega) (by rw[List.size_toArray,←hl];exact h1) (by simpa using ew) ⟨rfl,fin⟩) hs
theorem b9:Yj X Gv:=by
 intro value slice pins s σ H x y v u Q I rx ry h hs
 obtain⟨z,i,c,rfl,rfl,hz,he,q⟩:=h
 obtain⟨t,rfl⟩:=rx
 obtain⟨t',rfl⟩:=ry
 obtain⟨j,h1,h2,h3,h4,h5⟩:=lD he
 have hl:z.cps.toList.length=z.length:=by simp [Str.length]
 rw[hl] at h1 h4 h5
 have hn:=cI
 exact tail_any (typeIs_str s z t) slot_str_getitem.lookup (getItem_str (c:=c) (by
  have e1:decide (i < -(2 ^ 63:Int))=false:=decide_eq_false (by omega)
  have e2:decide (i≥2 ^ 63)=false:=decide_eq_false (by omega)
  rw[e1,e2,Bool.or_false]) (by rw[h1];simpa using h2) ⟨.str ⟨#[c]⟩,H,I.tok _,⟨_,rfl⟩,q⟩) hs
noncomputable def Fh (K:PySem.W.Frag):R2:=fun x y H Q=>WY K x y H Q∨WG K x y H Q∨Gv x y H Q
noncomputable def BR:V→V→V→Hp→(Hp→Prop)→Prop:=fun o i v H Q=>∃p xs k j,o=.ref p∧i=.int k∧H p=some (.lst xs)∧Xt xs.length k=some j∧Q (upd H p (.lst (xs.set j v)))
theorem tJ (lo hi:Option Int) (n:Nat):(sliceBounds lo hi none n).1=((HT.sE n 0 lo:Nat):Int)∧(sliceBounds lo hi none n).2.1=((HT.sE n n hi:Nat):Int)∧(sliceBounds lo hi none n).2.2=1:=by
 refine⟨?_,?_,rfl⟩
 ·cases lo with
  | none=>simp [sliceBounds,HT.sE]
  | some i=>
   simp only[sliceBounds,HT.sE,Option.getD_none,show (1:Int) > 0 by decide,if_true]
   by_cases h:i < 0
   ·simp only[h,if_true]<;>omega
   ·simp only[h,if_false]<;>omega
 ·cases hi with
  | none=>simp [sliceBounds,HT.sE]
  | some i=>
   simp only[sliceBounds,HT.sE,Option.getD_none,show (1:Int) > 0 by decide,if_true]
   by_cases h:i < 0
   ·simp only[h,if_true]<;>omega
   ·simp only[h,if_false]<;>omega
theorem rp (its:List Value) (lo hi:Option Int):slicePick its.toArray lo hi none=((its.drop (HT.sE its.length 0 lo)).take (HT.sE its.length its.length hi - HT.sE its.length 0 lo)).toArray:=by
 obtain⟨h1,h2,h3⟩:=tJ lo hi its.toArray.size
 unfold slicePick
 rw[h1,h2,h3]
 simp only[sliceRange_one,pick_run,List.size_toArray]<;>rfl
noncomputable def Bb (K:PySem.W.Frag):V→Option Int→Option Int→Hp→VK→Prop:=fun x lo hi H Q=>∃a xs,x=.ref a∧jx K H a xs∧∀p,H p=none→Q (.ref p) (upd H p (.lst (bE xs lo hi)))
theorem Kf:KY X (Bb X.K):=by
 intro pins s σ H x v vl vu lo hi sl Q I rx hs pl pu h
 obtain⟨a,xs,rfl,hx,q⟩:=h
 cases rx
 obtain⟨its,r,ht,hz⟩:=I.list hx
 have hlen:=r.length
 refine⟨"list",_,slot_list_getitem.lookup,ht.isList.typeIs,?_⟩
 refine wpAny_getItem_list_slice ht.isList hs pl pu .none (by simp) ?_ (by rw[List.size_toArray]<;>omega)
 rw[rp,←hlen]
 refine⟨.ref s.heap.objs.size,_,I.laid (t':=s.toks) (o:=.lst (bE xs lo hi)) (fun b ob q=>Heap.get?_push_of_some _ q) (Nat.le_refl _) ?_,rfl,q _ (I.jw.fresh (Nat.le_refl _))⟩
 exact⟨Nat.le_trans (nZ xs lo hi) hz,_,0,(r.drop (HT.sE xs.length 0 lo)).take (HT.sE xs.length xs.length hi - HT.sE xs.length 0 lo),Heap.get?_push_size _ rfl⟩
noncomputable def fv:V→Bool
 | .non=>true
 | .bl _=>true
 | .int _=>true
 | .str _=>true
 | _=>false
noncomputable def Xm:V→V→Bool
 | .non,.non=>true
 | .bl a,.bl b=>a == b
 | .bl a,.int b=>(if a then 1 else 0) == b
 | .int a,.bl b=>a == (if b then 1 else 0)
 | .int a,.int b=>a == b
 | .str a,.str b=>a == b
 | _,_=>false
theorem VE {A:Around} {s:Shared} {y x:V} {u v:Value} (ry:RelV y u) (rx:RelV x v) (fy:fv y=true) (fx:fv x=true):SeqAt.EqAt A s u v (Xm y x):=by
 cases y with
 | non=>
  cases ry
  cases x with
  | non=>cases rx;exact SeqAt.EqAt.same _
  | bl b=>cases rx;exact SeqAt.EqAt.none_bool b
  | int b=>obtain⟨t,rfl⟩:=rx;exact SeqAt.EqAt.none_int b t
  | str b=>obtain⟨t,rfl⟩:=rx;exact SeqAt.EqAt.none_str b t
  | _=>exact absurd (show false=true from fx) Bool.false_ne_true
 | bl a=>
  cases ry
  cases x with
  | non=>cases rx;exact SeqAt.EqAt.bool_none a
  | bl b=>cases rx;exact SeqAt.EqAt.bool_bool a b
  | int b=>obtain⟨t,rfl⟩:=rx;exact SeqAt.EqAt.bool_int a b t
  | str b=>obtain⟨t,rfl⟩:=rx;exact SeqAt.EqAt.bool_str a b t
  | _=>exact absurd (show false=true from fx) Bool.false_ne_true
 | int a=>
  obtain⟨t',rfl⟩:=ry
  cases x with
  | non=>cases rx;exact SeqAt.EqAt.int_none a t'
  | bl b=>cases rx;exact SeqAt.EqAt.int_bool a t' b
  | int b=>obtain⟨t,rfl⟩:=rx;exact SeqAt.EqAt.int_int a t' b t
  | str b=>obtain⟨t,rfl⟩:=rx;exact SeqAt.EqAt.int_str a t' b t
  | _=>exact absurd (show false=true from fx) Bool.false_ne_true
 | str a=>
  obtain⟨t',rfl⟩:=ry
  cases x with
  | non=>cases rx;exact SeqAt.EqAt.str_none a t'
  | bl b=>cases rx;exact SeqAt.EqAt.str_bool a t' b
  | int b=>obtain⟨t,rfl⟩:=rx;exact SeqAt.EqAt.str_int a t' b t
  | str b=>obtain⟨t,rfl⟩:=rx;exact SeqAt.EqAt.str_str a t' b t
  | _=>exact absurd (show false=true from fx) Bool.false_ne_true
 | _=>exact absurd (show false=true from fy) Bool.false_ne_true
noncomputable def Xf (x:V) (u:Value):Bool:=match u with
 | .none=>Xm .non x
 | .bool b=>Xm (.bl b) x
 | .int i _=>Xm (.int i) x
 | .str z _=>Xm (.str z) x
 | _=>false
theorem Qo {x y:V} {u:Value} (r:RelV y u) (f:fv y=true):Xf x u=Xm y x:=by
 cases y with
 | non=>cases r;rfl
 | bl b=>cases r;rfl
 | int i=>obtain⟨t,rfl⟩:=r;rfl
 | str z=>obtain⟨t,rfl⟩:=r;rfl
 | _=>exact absurd (show false=true from f) Bool.false_ne_true
theorem lM {x:V}:∀{xs:List V} {us:List Value},Vals xs us→xs.all fv=true→us.any (Xf x)=xs.any fun y=>Xm y x
 | _,_,.nil,_=>rfl
 | y :: xs,u :: us,.cons r t,f=>by
  rw[List.all_cons,Bool.and_eq_true] at f
  rw[List.any_cons,List.any_cons,Qo r f.1,lM t f.2]
theorem uq {A:Around} {s:Shared} {x:V} {v:Value} (rx:RelV x v) (fx:fv x=true):∀{xs:List V} {us:List Value},Vals xs us→xs.all fv=true→∀u∈us,SeqAt.EqAt A s u v (Xf x u)
 | _,_,.nil,_=>fun u hu=>by cases hu
 | y :: xs,u :: us,.cons r t,f=>fun u' hu=>by
  rw[List.all_cons,Bool.and_eq_true] at f
  rcases List.mem_cons.mp hu with rfl | hu
  ·rw[Qo r f.1];exact VE r rx f.1 fx
  ·exact uq rx fx t f.2 u' hu
noncomputable def Xr (x:V) (xs:List V):Bool:=xs.any fun y=>Xm y x
noncomputable def BU (K:PySem.W.Frag) (neg:Bool):R2:=fun x y H Q=>∃p xs,y=.ref p∧(jx K H p xs∨fz K H p xs)∧fv x=true∧xs.all fv=true∧Q (.bl (if neg then !Xr x xs else Xr x xs)) H
theorem sG:bL X (compareOp .NotIn) (BU X.K true):=by
 intro pins s σ H x y v u Q I rx ry h
 obtain⟨p,xs,rfl,hq,fx,fs,q⟩:=h
 cases ry
 rcases hq with hq | hq
 ·obtain⟨its,r,pl,hz⟩:=I.list hq
  refine SeqAt.notIn_listAt (Xf x) pl.isList (fun w hw=>uq rx fx r fs w (by simpa using hw)) ⟨.bl _,H,I,rfl,?_⟩
  rw[show its.toArray.any (Xf x)=its.any (Xf x) by simp,lM r fs]
  exact q
 ·obtain⟨its,r,pl,hz⟩:=I.tuple hq
  refine SeqAt.notIn_tupleAt (Xf x) pl (fun w hw=>uq rx fx r fs w (by simpa using hw)) ⟨.bl _,H,I,rfl,?_⟩
  rw[show its.toArray.any (Xf x)=its.any (Xf x) by simp,lM r fs]
  exact q
theorem lL:kA X (.builtin "len") (fun xs H Q=>∃p ys,xs=[.ref p]∧(jx X.K H p ys∨fz X.K H p ys)∧Q (.int ys.length) H):=by
 intro pins s σ H xs us Q I r h
 obtain⟨p,ys,rfl,hq,q⟩:=h
 obtain⟨u,rfl,rx⟩:=vals1 r
 cases rx
 have hn:=cI
 rcases hq with hq | hq
 ·obtain⟨its,r',pl,hz⟩:=I.list hq
  have hlen:=r'.length
  exact Calls.call_len_list pl.isList (by simp only[List.size_toArray]<;>omega) ⟨.int ys.length,H,I.tok _,⟨s.toks + 1,by rw[List.size_toArray,hlen]⟩,q⟩
 ·obtain⟨its,r',pl,hz⟩:=I.tuple hq
  have hlen:=r'.length
  exact len_tuple pl (by simp only[List.size_toArray]<;>omega) ⟨.int ys.length,H,I.tok _,⟨s.toks + 1,by rw[List.size_toArray,hlen]⟩,q⟩
theorem mv:kA X (.builtin "len") (fun xs H Q=>∃z,xs=[.str z]∧z.length≤sizeLine∧Q (.int z.length) H):=by
 intro pins s σ H xs us Q I r h
 obtain⟨z,rfl,hz,q⟩:=h
 obtain⟨u,rfl,t,rfl⟩:=vals1 r
 have hn:=cI
 exact len_str (by omega) ⟨.int z.length,H,I.tok _,⟨_,rfl⟩,q⟩
theorem lS:kA X (.type "list") (fun xs H Q=>∃p ys,xs=[.ref p]∧(jx X.K H p ys∨fz X.K H p ys)∧∀l,H l=none→Q (.ref l) (upd H l (.lst ys))):=by
 intro pins s σ H xs us Q I r h
 obtain⟨p,ys,rfl,hq,q⟩:=h
 obtain⟨u,rfl,rx⟩:=vals1 r
 cases rx
 have fin:∀(its:List Value),Vals ys its→ys.length≤sizeLine→∀(h':Heap) (c':Nat),(∀b o',s.heap.get? b=some o'→h'.get? b=some o')→
   h'.get? s.heap.objs.size=some { cls:=.type "list",dict:=none,data:=.seq its.toArray c',slots:=#[] }→EP X pins σ Q (.ref s.heap.objs.size) { s with heap:=h' }:=fun its r' hz h' c' kp e=>
  ⟨.ref s.heap.objs.size,_,I.laid (t':=s.toks) kp (Nat.le_refl _) (show xx X.prog X.w _ h' _ (.lst ys) from ⟨hz,its,c',r',e⟩),rfl,q _ (I.jw.fresh (Nat.le_refl _))⟩
 rcases hq with hq | hq
 ·obtain⟨its,r',pl,hz⟩:=I.list hq
  have hlen:=r'.length
  obtain⟨o,ho,hc,n,hd⟩:=pl.isList
  exact call_list_seq p (.inl rfl) ho hc hd (fun h' c' kp e=>fin its r' hz h' c' kp e) (by simp only[List.size_toArray]<;>omega)
 ·obtain⟨its,r',pl,hz⟩:=I.tuple hq
  have hlen:=r'.length
  obtain⟨o,ho,hc,n,hd⟩:=pl
  exact call_list_seq p (.inr rfl) ho hc hd (fun h' c' kp e=>fin its r' hz h' c' kp e) (by simp only[List.size_toArray]<;>omega)
noncomputable def BG (K:PySem.W.Frag) (T:String) (x:V) (H:Hp):Prop:=match x with
 | .str _=>T = "str"
 | .int _=>T = "int"
 | .ref p=>(T = "list"∧∃xs,jx K H p xs)∨(T = "tuple"∧∃o,K.lookup p=some o∧o.cls=.type "tuple"∧o.dict=none)∨
   (T = "dict"∧((∃kvs,H p=some (.dK kvs))∨∃kvs,H p=some (.dT kvs)))∨(T = "set"∧∃S n,H p=some (.set S n))
 | _=>False
theorem JL {pins:List (Addr × Obj)} {σ:St} {H:Hp} {s:Shared} {T:String} {x:V} {v:Value} (I:Inv X pins σ H s) (r:RelV x v) (ty:BG X.K T x H) :
  s.TypeIs v T∧∀a,v=.ref a→∃ob,s.heap.get? a=some ob∧ob.dict=none:=by
 cases x with
 | str z=>
  obtain⟨t,rfl⟩:=r
  cases (show T = "str" from ty)
  exact⟨typeIs_str s z t,fun _ e=>nomatch e⟩
 | int i=>
  obtain⟨t,rfl⟩:=r
  cases (show T = "int" from ty)
  exact⟨typeIs_int s i t,fun _ e=>nomatch e⟩
 | ref p=>
  cases r
  rcases ty with ⟨rfl,xs,hq⟩ | ⟨rfl,o,hk,hc,hd⟩ | ⟨rfl,hk⟩ | ⟨rfl,S,n,hk⟩
  ·obtain⟨its,_,pl,_⟩:=I.list hq
   refine⟨pl.isList.typeIs,fun a e=>?_⟩
   cases e
   obtain⟨o,n,e,c,hd,_⟩:=pl
   exact⟨o,e,hd⟩
  ·refine⟨⟨o,I.gB p o hk,hc⟩,fun a e=>?_⟩
   cases e
   exact⟨o,I.gB _ o hk,hd⟩
  ·have z:∃o,s.heap.get? p=some o∧o.ExactDict:=by
    rcases hk with ⟨kvs,hk⟩ | ⟨kvs,hk⟩
    ·obtain⟨_,_,_,_,o,_,_,e,ex,_⟩:=I.jw p _ hk
     exact⟨o,e,ex⟩
    ·obtain⟨_,_,_,_,o,_,_,e,ex,_⟩:=I.jw p _ hk
     exact⟨o,e,ex⟩
   obtain⟨o,e,ex⟩:=z
   refine⟨⟨o,e,ex.1⟩,fun a e2=>?_⟩
   cases e2
   exact⟨o,e,ex.2.1⟩
  ·obtain⟨o,_,_,_,e,ex,_⟩:=I.jw p _ hk
   refine⟨⟨o,e,ex.1⟩,fun a e2=>?_⟩
   cases e2
   exact⟨o,e,ex.2.1⟩
 | _=>exact False.elim ty
noncomputable def Bd (K:PySem.W.Frag) (T:String) (r:V→List V→Hp→VK→Prop) (to:TE):TE:=fun σ H Q=>to σ H fun x H1=>BG K T x H1∧r x [] H1 Q
noncomputable def PD (K:PySem.W.Frag) (T:String) (r:V→List V→Hp→VK→Prop) (to:TE) (t:TA):TE:=fun σ H Q=>to σ H fun x H1=>BG K T x H1∧t σ H1 fun xs H2=>r x xs H2 Q
variable {o e:Expr} {es:List Expr} {to:TE} {t:TA} {name:Str} {apos cpos:Pos} {T id:String} {r:V→List V→Hp→VK→Prop}
theorem Q8 (pa:PlainAttrs T) (slot:Slot T name id) (hty:typeOf (.builtin id)=pure (.type "method_descriptor")) (hm:ZT X id r) (ho:PE X o to)
  (hbase:attributeBase o name X.env (eval o X.env)=eval o X.env:=by rfl) (hline:(apos.endLine == cpos.line)=true:=by rfl):PE X (.Call (.Attribute o name apos) [] [] cpos) (Bd X.K T r to):=by
 intro pins s σ H Q I h
 refine wpAny_Call_method0_late hbase hline (xy (ho pins s σ H _ I h) fun v s1 ⟨x,H1,I1,r1,ty,q1⟩=>?_)
 obtain⟨h1,h2⟩:=JL I1 r1 ty
 exact⟨T,id,pa,slot,hty,h1,h2,Calls.callWith_builtin rfl (PySem.evalArgs_none (hm pins s1 σ H1 x [] v [] Q I1 r1 .nil q1))⟩
theorem vw (pa:PlainAttrs T) (slot:Slot T name id) (hty:typeOf (.builtin id)=pure (.type "method_descriptor")) (hm:ZT X id r) (ho:PE X o to) (ha:PA X (e :: es) t)
  (hbase:attributeBase o name X.env (eval o X.env)=eval o X.env:=by rfl)
  (hfew:((backTo cpos (starEach (e :: es) X.env)).all (fun x=>!x.1) && (backToKw cpos (keywordEach [] X.env)).all (fun x=>x.1.isSome)
   && decide ((e :: es).length + ([]:List Keyword).length + (if ([]:List Keyword).isEmpty then 0 else 1) < 30))=true:=by rfl)
  (hline:(apos.endLine == cpos.line)=true:=by rfl) (hs:starEach (e :: es) X.env=(false,eval e X.env) :: starEach es X.env:=by rfl) (hplain:(backTo cpos (starEach es X.env)).any (·.1)=false:=by rfl) :
  PE X (.Call (.Attribute o name apos) (e :: es) [] cpos) (PD X.K T r to t):=by
 intro pins s σ H Q I h
 refine wpAny_Call_method_late hbase hfew hline rfl (xy (ho pins s σ H _ I h) fun v s1 ⟨x,H1,I1,r1,ty,q1⟩=>?_)
 obtain⟨h1,h2⟩:=JL I1 r1 ty
 refine⟨T,id,pa,slot,hty,h1,h2,?_⟩
 have hA:=ha cpos pins s1 σ H1 _ I1 q1
 rw[hs] at hA ⊢
 refine Calls.callWith_builtin (by show (false || (backTo cpos (starEach es X.env)).any (·.1))=false;rw[hplain]<;>rfl) (Calls.evalArgs_plain ?_)
 exact xy hA fun us s2 ⟨vs,H2,I2,r2,q2⟩=>hm pins s2 σ H2 x vs v us Q I2 r1 r2 q2
end
end L2
namespace L2
open PySem PySem.Spec PyProof.Rows
noncomputable def Hv (X:Cx) (id:String) (r:V→List V→Hp→VK→Prop):Prop:=
 ∀(pins:List (Addr × Obj)) (s:Shared) (σ:St) (H:Hp) (x:V) (xs:List V) (v:Value) (us:List Value) (Q:VK),Inv X pins σ H s→RelV x v→Vals xs us→r x xs H Q→
  wpAny (model X.prog X.w) X.A (call (.builtin id) (v :: us)) (EP X pins σ Q) X.xe s
theorem Vals.one:∀{x:V} {us:List Value},Vals [x] us→∃u,us=[u]∧RelV x u
 | _,_,.cons r .nil=>⟨_,rfl,r⟩
theorem Vals.zero:∀{us:List Value},Vals [] us→us=[]
 | _,.nil=>rfl
theorem Vals.dropLast {xs:List V} {us:List Value} (h:Vals xs us):Vals xs.dropLast us.dropLast:=by
 induction h with
 | nil=>exact .nil
 | cons r t ih=>
  cases t with
  | nil=>exact .nil
  | cons q t'=>exact .cons r ih
theorem Vals.rep {xs:List V} {us:List Value} (h:Vals xs us):∀k:Nat,Vals (List.replicate k xs).flatten (List.replicate k us).flatten
 | 0=>.nil
 | k + 1=>by
  rw[List.replicate_succ,List.replicate_succ,List.flatten_cons,List.flatten_cons]
  exact Vals.append h (Vals.rep h k)
theorem ig {α:Type} (l:List α):l.eraseIdx (l.length - 1)=l.dropLast:=by
 induction l with
 | nil=>rfl
 | cons a r ih=>
  cases r with
  | nil=>rfl
  | cons b r=>
   have e:(a :: b :: r).length - 1=((b :: r).length - 1) + 1:=by
    have h1:(a :: b :: r).length=r.length + 2:=rfl
    have h2:(b :: r).length=r.length + 1:=rfl
    omega
   rw[e,List.eraseIdx_cons_succ,ih]
   all_goals rfl
theorem foldl_rep (its:List Value):∀(k:Nat) (acc:List Value),
  List.foldl (fun x1 x2=>x1 ++ x2) acc.toArray (List.replicate k its.toArray)=(acc ++ (List.replicate k its).flatten).toArray
 | 0,acc=>by simp
 | k + 1,acc=>by
  have e:acc.toArray ++ its.toArray=(acc ++ its).toArray:=by simp
  have e2:(acc ++ its) ++ (List.replicate k its).flatten=acc ++ (List.replicate (k + 1) its).flatten:=by
   rw[List.replicate_succ,List.flatten_cons,List.append_assoc]
  rw[←e2,←foldl_rep its k (acc ++ its),←e,List.replicate_succ,List.foldl_cons]
section
variable {X:Cx} {pins:List (Addr × Obj)} {σ:St} {H:Hp} {s:Shared} {l b:Addr} {xs ys zs:List V}
theorem Inv.Wv {its its':List Value} {n:Nat} {f:Array Value→Array Value} {t':Nat} (I:Inv X pins σ H s) (hH:H l=some (.lst xs))
  (e:s.heap.get? l=some { cls:=.type "list",data:=.seq its.toArray n }) (hf:f its.toArray=its'.toArray) (hv:Vals ys its') (hz:ys.length≤sizeLine) :
  Inv X pins σ (upd H l (.lst ys)) { s with heap:=s.heap.update l (Obj.mapSeq f),toks:=t' }:=by
 have q:=PySem.IsL.update e f
 rw[hf] at q
 refine I.write (x:=l) (e:=l) (by rw[hH];exact trivial) (.inl rfl) (fun b' u hb hu=>(Heap.get?_update_other s.heap (Obj.mapSeq f) (Ne.symm hb)).trans hu) ⟨_,q⟩ ?_
 exact⟨hz,its',_,hv,q⟩
theorem Inv.QF {its:List Value} {t':Nat} (I:Inv X pins σ H s) (hv:Vals ys its) (hz:ys.length≤sizeLine) :
  Inv X pins σ (upd H s.heap.objs.size (.lst ys)) { s with heap:=s.heap.push { cls:=.type "list",data:=.seq its.toArray },toks:=t' }:=
 I.laid (fun _ _ q=>Heap.get?_push_of_some _ q) (Nat.le_refl _) ⟨hz,its,0,hv,Heap.get?_push_size _ rfl⟩
theorem Inv.fresh (I:Inv X pins σ H s):H s.heap.objs.size=none:=I.jw.fresh (Nat.le_refl _)
theorem Inv.iJ (I:Inv X pins σ H s) (hH:H l=some (.lst xs)):xs.length≤sizeLine∧∃(its:List Value) (n:Nat),Vals xs its∧xs.length=its.length∧s.heap.get? l=some { cls:=.type "list",data:=.seq its.toArray n }:=by
 obtain⟨z,its,n,r,e⟩:=I.jw l _ hH
 exact⟨z,its,n,r,r.length,e⟩
theorem nE {n:Nat} (h:n≤sizeLine):Builtin.List.listTooLong n=false:=by
 unfold Builtin.List.listTooLong
 exact decide_eq_false (by omega)
end
section
variable {X:Cx}
noncomputable def XA:V→List V→Hp→VK→Prop:=fun x vs H Q=>∃l xs y,x=.ref l∧vs=[y]∧H l=some (.lst xs)∧xs.length < sizeLine∧Q .non (upd H l (.lst (xs ++ [y])))
theorem dc:Hv X "list.append" XA:=by
 intro pins s σ H x vs v us Q I rx rv h
 obtain⟨l,xs,y,rfl,rfl,hH,hz,q⟩:=h
 cases rx
 obtain⟨u,rfl,ru⟩:=rv.one
 obtain⟨z,its,n,r,hl,e⟩:=I.iJ hH
 refine call_meets F.slot_list_append ⟨_,e,rfl⟩ F.entry_list_append (F.args_list_append_2 _ _) (PySem.list_append l its.toArray n u (by rw[List.size_toArray];omega)) ⟨e,?_⟩
 refine⟨.non,_,I.Wv (its':=its ++ [u]) hH e (by simp) (r.append (.cons ru .nil)) ?_,rfl,q⟩
 rw[List.length_append,List.length_singleton]
 omega
noncomputable def Kz:V→List V→Hp→VK→Prop:=fun x vs H Q=>∃l b xs zs,x=.ref l∧vs=[.ref b]∧H l=some (.lst xs)∧H b=some (.lst zs)∧xs.length + zs.length≤sizeLine∧Q .non (upd H l (.lst (xs ++ zs)))
theorem Yv:Hv X "list.extend" Kz:=by
 intro pins s σ H x vs v us Q I rx rv h
 obtain⟨l,b,xs,zs,rfl,rfl,hH,hB,hz,q⟩:=h
 cases rx
 obtain⟨u,rfl,ru⟩:=rv.one
 cases ru
 obtain⟨z,its,n,r,hl,e⟩:=I.iJ hH
 obtain⟨z2,its2,n2,r2,hl2,e2⟩:=I.iJ hB
 have hsz:its.toArray.size + its2.toArray.size≤sizeLine:=by rw[List.size_toArray,List.size_toArray];omega
 have hlong:¬(!its.toArray.isEmpty && Builtin.List.listTooLong (its.toArray.size + its2.toArray.size))=true:=by
  rw[nE hsz,Bool.and_false]
  exact Bool.false_ne_true
 refine call_meets F.slot_list_extend ⟨_,e,rfl⟩ F.entry_list_extend (F.args_list_extend_2 _ _)
  (AutoSeq1.list_extend_list_list_0 l its.toArray n b its2.toArray n2 hlong (by rw[List.size_toArray];omega) (by omega)) ⟨e,e2,?_⟩
 refine⟨.non,_,I.Wv (its':=its ++ its2) hH e (by simp) (r.append r2) ?_,rfl,q⟩
 rw[List.length_append]
 omega
noncomputable def By:V→List V→Hp→VK→Prop:=fun x vs H Q=>∃l xs y,x=.ref l∧vs=[]∧H l=some (.lst xs)∧xs[xs.length - 1]?=some y∧Q y (upd H l (.lst xs.dropLast))
theorem Wg:Hv X "list.pop" By:=by
 intro pins s σ H x vs v us Q I rx rv h
 obtain⟨l,xs,y,rfl,rfl,hH,hy,q⟩:=h
 cases rx
 have hus:=rv.zero
 subst hus
 obtain⟨z,its,n,r,hl,e⟩:=I.iJ hH
 obtain⟨u,hu,ru⟩:=r.get hy
 have hy':its.toArray[its.toArray.size - 1]?=some u:=by
  show its.toArray[its.length - 1]?=some u
  rw[←Array.getElem?_toList,←hl]
  exact hu
 refine call_meets F.slot_list_pop ⟨_,e,rfl⟩ F.entry_list_pop (F.args_list_pop_1 _) (MeetsSeq.list_pop_last l its.toArray n u hy' (by rw[List.size_toArray];omega)) ⟨e,?_⟩
 refine⟨y,_,I.Wv (its':=its.dropLast) hH e ?_ r.dropLast ?_,ru,q⟩
 ·show its.toArray.eraseIdxIfInBounds (its.toArray.size - 1)=its.dropLast.toArray
  rw[List.size_toArray,List.eraseIdxIfInBounds_toArray,ig]
 ·rw[List.length_dropLast]
  omega
noncomputable def Bg:V→List V→Hp→VK→Prop:=fun x vs H Q=>∃l xs i k y,x=.ref l∧vs=[.int i]∧H l=some (.lst xs)∧-(2 ^ 63)≤i∧i < 2 ^ 63∧seqIndex? i xs.length=some k∧xs[k]?=some y∧Q y (upd H l (.lst (xs.eraseIdx k)))
noncomputable def Gy:V→List V→Hp→VK→Prop:=fun x vs H Q=>∃l xs,x=.ref l∧vs=[]∧H l=some (.lst xs)∧Q .non (upd H l (.lst xs.reverse))
noncomputable def Bw:V→List V→Hp→VK→Prop:=fun x vs H Q=>∃l xs,x=.ref l∧vs=[]∧H l=some (.lst xs)∧Q .non (upd H l (.lst []))
noncomputable def Bv:R2:=fun x y H Q=>∃l b xs zs,x=.ref l∧y=.ref b∧H l=some (.lst xs)∧H b=some (.lst zs)∧xs.length + zs.length≤sizeLine∧∀p,H p=none→Q (.ref p) (upd H p (.lst (xs ++ zs)))
theorem Wr:bL X (binaryOp .Add) Bv:=by
 intro pins s σ H x y v u Q I rx ry h
 obtain⟨l,b,xs,zs,rfl,rfl,hH,hB,hz,q⟩:=h
 cases rx
 cases ry
 obtain⟨z,its,n,r,hl,e⟩:=I.iJ hH
 obtain⟨z2,its2,n2,r2,hl2,e2⟩:=I.iJ hB
 refine PySem.P.add_list e e2 ?_ (by rw[List.size_toArray,List.size_toArray];omega)
 have ea:its.toArray ++ its2.toArray=(its ++ its2).toArray:=by simp
 rw[ea]
 exact⟨.ref _,_,I.QF (t':=s.toks) (r.append r2) (by rw[List.length_append];omega),rfl,q _ I.fresh⟩
noncomputable def Bh:R2:=fun x y H Q=>∃l k xs,x=.ref l∧y=.int k∧H l=some (.lst xs)∧-(2 ^ 63)≤k∧k < 2 ^ 63∧xs.length * k.toNat≤sizeLine∧
 ∀p,H p=none→Q (.ref p) (upd H p (.lst (List.replicate k.toNat xs).flatten))
theorem len_rep {α:Type} (xs:List α) (k:Nat):(List.replicate k xs).flatten.length=k * xs.length:=by
 induction k with
 | zero=>simp
 | succ k ih=>rw[List.replicate_succ,List.flatten_cons,List.length_append,ih,Nat.succ_mul,Nat.add_comm]
theorem Q5:bL X (binaryOp .Mult) Bh:=by
 intro pins s σ H x y v u Q I rx ry h
 obtain⟨l,k,xs,rfl,rfl,hH,h1,h2,hz,q⟩:=h
 cases rx
 obtain⟨t,rfl⟩:=ry
 obtain⟨z,its,n,r,hl,e⟩:=I.iJ hH
 have hlen:its.toArray.size * k.toNat≤sizeLine:=by rw[List.size_toArray,←hl];exact hz
 have hcap:¬its.toArray.size * k.toNat > (2 ^ 63 - 1) / 8:=by
  have:(sizeLine:Nat)≤(2 ^ 63 - 1) / 8:=by decide
  omega
 have hfit:¬(!Builtin.List.listFitsIndex k)=true:=by
  rw[fitsIndex_both h1 h2]
  exact Bool.false_ne_true
 have hlong:¬Builtin.List.listTooLong (its.toArray.size * k.toNat)=true:=by
  rw[nE hlen]
  exact Bool.false_ne_true
 have hnew:List.foldl (fun x1 x2=>x1 ++ x2) #[] (List.replicate (if its.toArray.isEmpty=true then 0 else k.toNat) its.toArray)=(List.replicate k.toNat its).flatten.toArray:=by
  have f0:∀m:Nat,List.foldl (fun x1 x2=>x1 ++ x2) #[] (List.replicate m its.toArray)=(List.replicate m its).flatten.toArray:=fun m=>by
   have:=foldl_rep its m []
   rw[List.nil_append] at this
   exact this
  rw[f0]
  cases its with
  | nil=>simp
  | cons a r'=>rw[if_neg (by simp)]
 refine wpAny_binaryOp_repeat_ref (T:="list") (U:="int") (by decide) ⟨_,e,rfl⟩ (fun s'=>typeIs_int s' k t) noFill_list_mul F.fills_int_mul F.slot_int_rmul repeat_list F.slot_int_index.lookup
  (call_meets F.slot_int_rmul (typeIs_int s k t) F.entry_int_rmul (F.args_int_rmul_2 _ _) (int___rmul___int_list k t l its.toArray n)
   ⟨e,rfl,⟨_,e,rfl⟩,call_meets F.slot_list_mul ⟨_,e,rfl⟩ F.entry_list_mul (F.args_list_mul_2 _ _) (AutoListH.list___mul___list_int_3 l its.toArray n k t hfit hcap hlong) ⟨e,?_⟩⟩)
 rw[hnew]
 exact⟨.ref _,_,I.QF (t':=s.toks) (r.rep k.toNat) (by rw[len_rep,Nat.mul_comm];exact hz),rfl,q _ I.fresh⟩
end
section
variable {prog:Program} {w:World} {A:Around} {E:Value→Shared→Prop} {s:Shared}
end
section
variable {X:Cx}
end
end L2
namespace Att
open PySem PySem.W PySem.Calls PyProof.Rows
theorem d7 {P:Params} {h:Heap}:∀(ns:List Int) (vs:List Value),WellAll P h vs (ns.map WData.int)→IntsAre vs ns:=by
 intro ns
 induction ns with
 | nil=>
  intro vs w
  rw[List.map_nil] at w
  cases w
  exact .nil
 | cons n ns ih=>
  intro vs w
  rw[List.map_cons] at w
  cases w with
  | cons a b=>
   cases a
   exact .cons _ _ (ih _ b)
theorem ZY {l:OpenLaw} {n:Nat} (hn:l.most=some n) {P:Params} {h:Heap} {args:List WData} {vals:List Value}
  (hpre:l.row.toRowW.claim.pre args=true) (hwl:WellAll P h vals args) :
  ∃a vs ns,vals=[Value.ref a]∧args=[WData.list (ns.map WData.int)]∧h.get? a=some { cls:=.type "list",data:=.seq vs.toArray }∧IntsAre vs ns∧ns.length≤n:=by
 have hsh:WShape.hasAll [] args [.list .int]=true:=(pre_splitW hpre).1
 have hc:l.pre.holds [] { args:=args }=true:=(pre_splitW hpre).2
 obtain⟨d,r,rfl,h1,h2⟩:=hasAllW_cons hsh
 obtain rfl:=hasAllW_nil h2
 obtain⟨xs,rfl,h3⟩:=hasW_list h1
 obtain⟨ns,rfl⟩:=items_int h3
 have hlen:ns.length≤n:=by
  unfold OpenLaw.pre at hc
  have h4:(WTm.not (.lt (.lit (.int (n:Int))) (.len (.arg 0)))).holds [] { args:=[.list (ns.map .int)] }=true:=by
   have h4:=(holds_andW hc).1
   rw[hn] at h4
   exact h4
  have h5:=condW_of h4 (w_not (w_lt w_lit (w_len_list (w_arg rfl))))
  rw[List.length_map] at h5
  refine Nat.le_of_not_lt fun q=>?_
  have q':(n:Int) < ((ns.length:Nat):Int):=by omega
  first
   | (rw[decide_eq_true q'] at h5;exact absurd h5 (by decide))
   | (simp at h5;omega)
 cases hwl with
 | cons w1 w2=>
  cases w2
  cases w1 with
  | list ho hall=>exact⟨_,_,ns,rfl,rfl,ho,d7 ns _ hall,hlen⟩
theorem Za (l:OpenLaw) (args:List WData):l.row.toRowW.claim.post args (.bool true) args=true:=
 postW_of (r:=l.row.toRowW) (X:=(true == true))
  (show WShape.has [] (.bool true) .bool=true by first | rfl | decide | simp [WShape.has,WShape.arms,WShape.armsAll])
  (show (WTm.eq .res (.lit (.bool true))).value [] { args:=args,res:=some (.bool true),after:=args }=some (.bool (true == true)) from w_eq_bool (w_res rfl) w_lit) rfl
theorem tS {l:OpenLaw} {n:Nat} {q:Program} {loose:List Str} {XP:(Str→Option Value)→Heap→Prop} {YP:World→Heap→Prop} {d:DefRec}
  (hn:l.most=some n) (hdf:d.params.defaults=[])
  (call:∀(w:World) (s₀ s₁:Shared) (mg mb:Str→Option Value) (fa:Addr) (o:Obj) (pm cd doc:Value) (a:Addr) (vs:List Value) (ns:List Int),
   Ground q loose [] XP w s₀ mg mb s₁.heap→YP w s₁.heap→
   s₁.heap.get? fa=some o→o.data=.func (docDef d.name d.params d.body d.scope pm cd doc)→s₁.heap.CodeRec cd d.name→mg d.name=some (.ref fa)→
   s₁.heap.get? a=some { cls:=.type "list",data:=.seq vs.toArray }→IntsAre vs ns→ns.length≤n→s₁.gens = #[]→
   codeAny (model l.prog w) callerA (.call (.ref fa) ⟨[.ref a],[]⟩) (fun r s'=>r=.ok (.ret (.bool true))∧OldK s₁.heap s'.heap∧s'.os=s₁.os∧AllBare s'.gens) s₁) :
  WalkO q loose XP YP l.row.toRowW d [] (fun f vs=>PySem.call f vs):=by
 intro w s₀ s₁ mg mb G Y fa o pm cd doc dV kV ho hd hcd hD hmg hg args vals as hpre hlay hrd hwl hlo
 obtain rfl:dV=.none:=Dflts.none hD hdf
 obtain rfl:kV=.none:=Dflts.noKw hD
 obtain⟨a,vs,ns,rfl,rfl,hobj,hints,hlen⟩:=ZY hn hpre hwl
 refine enter_call (codeAny_mono (call w s₀ s₁ mg mb fa o pm cd doc a vs ns G Y ho (fd_plain hd) hcd hmg hobj hints hlen hg) fun r s' hq=>?_)
 obtain⟨rfl,h2,h3,h4⟩:=hq
 exact⟨.inl ⟨.bool true,.bool true,[],rfl,fun _=>rfl,.bool true,Za l _,fun _=>⟨List.Pairwise.nil,fun _ hm=>(nomatch hm)⟩⟩,h2,h3,h4⟩
section
variable {prog:Program} {w:World} {A:Around} {E:Value→Shared→Prop} {s:Shared} {K:Frag}
noncomputable def HA (h:Heap):Heap:={ h with objs:=#[] }
noncomputable def ledger (h:Heap) (L d:Addr):List (Addr × Obj):=(List.range h.objs.size).filterMap fun a=>if a=L∨a=d then none else (h.get? a).map fun o=>(a,o)
end
end Att
namespace L2
open PySem PySem.Spec PyProof.Rows
theorem lW:∀{vs:List Value} {ns:List Int},IntsAre vs ns→Vals (ns.map V.int) vs
 | _,_,.nil=>.nil
 | _,_,.cons n t h=>.cons ⟨t,rfl⟩ (lW h)
noncomputable def Z8 (H:Hp):Prop:=∀b,H b=none∨∃o xs,H b=some (.frz o (.lst xs))
theorem QH {P:Program} {w:World} {K:PySem.W.Frag} {mg mb:Str→Option Value} {CX:u3} {k:Nat} {fa a:Addr} {fd:FuncData} {x:Str} {sp:Sp} {s₁:Shared} {vs:List Value} {ns:List Int}
  (KX:K.In s₁.heap) (hns:s₁.heap.Ns mainGlobals mg) (hb:s₁.heap.Ns builtinsNs mb) (hbb:∀x:Str,x≠"__name__"→mb x=bootBuiltins x) (hlim:s₁.heap.NoLimit) (hg:s₁.gens = #[])
  (ha:s₁.heap.get? a=some { cls:=.type "list",data:=.seq vs.toArray }) (hi:IntsAre vs ns) (hl:ns.length≤sizeLine) (hr:kW k callerA)
  (F:∀base:Heap,K.In base→base.Ns mainGlobals mg→qW P w K mg base CX k fa fd [x] sp) (hbind:∀(s:Shared) (u:Value),BindsTo s fd ⟨[u],[]⟩ [(x,u)])
  (hsp:∀H:Hp,Z8 H→jx K H a (ns.map V.int)→sp [.ref a] H (fun v _=>v=.bl true) fun _ _ _=>False)
  (hCX:∀H e s',CX [] H s₁ (fun _ _ _=>False) e s'→False) :
  codeAny (model P w) callerA (.call (.ref fa) ⟨[.ref a],[]⟩) (fun r s'=>r=.ok (.ret (.bool true))∧OldK s₁.heap s'.heap∧s'.os=s₁.os∧AllBare s'.gens) s₁:=by
 have rv:=lW hi
 have lenV:=hi.length
 have core:∀H:Hp,Z8 H→jx K H a (ns.map V.int)→hU P w H s₁.heap→(∀b,H b≠none→b=a)→(H a≠none→K.lookup a=none)→
   codeAny (model P w) callerA (.call (.ref fa) ⟨[.ref a],[]⟩) (fun r s'=>r=.ok (.ret (.bool true))∧OldK s₁.heap s'.heap∧s'.os=s₁.os∧AllBare s'.gens) s₁:=by
  intro H hO hS jw hA hK
  have base_of:∀{b:Addr} {o:Obj},s₁.heap.get? b=some o→H b=none→(sx s₁.heap H).get? b=some o:=fun e n=>QK e n
  have noA:∀{b:Addr} {o:Obj} {es:Array DictEntry} {ep:Nat},s₁.heap.get? b=some o→o.data=.dict es ep→H b=none:=fun {b o es ep} e d=>by
   cases q:H b with
   | none=>rfl
   | some u=>
    have e':b=a:=hA b (by rw[q];simp)
    subst e'
    rw[ha] at e;cases e
    have d':Data.seq vs.toArray _=Data.dict es ep:=d
    cases d'
  have nsK:∀{b:Addr} {m:Str→Option Value},s₁.heap.Ns b m→(sx s₁.heap H).Ns b m:=fun {b m} ⟨o,es,ep,e,d,r⟩=>⟨o,es,ep,base_of e (noA e d),d,r⟩
  have hKb:K.In (sx s₁.heap H):=fun b o e=>base_of (KX b o e) (by
   cases q:H b with
   | none=>rfl
   | some u=>
    have e':b=a:=hA b (by rw[q];simp)
    subst e'
    rw[hK (by rw[q];simp)] at e;cases e)
  have hM:Mod K mg (sx s₁.heap H):=⟨hKb,nsK hns,⟨mb,nsK hb,hbb⟩,let ⟨mc,h1,h2⟩:=hlim;⟨mc,nsK h1,h2⟩⟩
  have e0:tR P w K mg (sx s₁.heap H) callerA [] s₁ H:=⟨rfl,hM,fun b o e=>XU e,Nat.le_of_eq (Zv _ _),trivial,fun b hb=>absurd (show b∈([]:List Addr) from hb) (by simp),jw,.of_eq hg⟩
  refine codeAny_mono ((F _ hKb (nsK hns)).run callerA [] s₁ H ⟨[.ref a],[]⟩ [.ref a] [.ref a] _ _ hr e0 (hbind s₁ (.ref a)) (.cons rfl .nil) (hsp H hO hS)) fun r s' h=>?_
  cases r with
  | error e=>exact(hCX H e s' h).elim
  | ok fl=>
   cases fl with
   | next=>exact False.elim h
   | brk=>exact False.elim h
   | cont=>exact False.elim h
   | ret u=>
    obtain⟨v,H',os,bare,un,hok',r',q⟩:=h
    have q':v=.bl true:=q
    subst q'
    obtain rfl:u=Value.bool true:=r'
    refine⟨rfl,OldK.of_keep fun b o e=>?_,os,bare⟩
    cases q:H b with
    | none=>exact un.keep b o e q (by intro z;exact absurd (show b∈([]:List Addr) from z) (by simp)) (by simp)
    | some u=>
     rcases hO b with z | ⟨ob,xs,z⟩
     ·rw[q] at z;cases z
     ·have z2:=un.cL b ob _ z
      obtain⟨e1,_⟩:=jw b _ z
      obtain⟨e2,_⟩:=hok' b _ z2
      rw[e] at e1;cases e1
      exact e2
 cases hk:K.lookup a with
 | some o=>
  have e:=KX a o hk
  rw[ha] at e
  cases e
  refine core (fun _=>none) (fun _=>.inl rfl) (.inr ⟨_,vs.toArray,_,hk,rfl,rfl,rfl,by rw[List.size_toArray,lenV];exact hl,by simpa using rv⟩) (fun b u z=>by have z':(none:Option HO)=some u:=z;cases z') (fun b z=>absurd rfl z) fun z=>absurd rfl z
 | none=>
  refine core (fun b=>if b=a then some (.frz { cls:=.type "list",data:=.seq vs.toArray } (.lst (ns.map V.int))) else none) (fun b=>?_) (.inl (.inr ⟨{ cls:=.type "list",data:=.seq vs.toArray },if_pos rfl⟩)) (fun b u z=>?_) (fun b z=>?_) fun _=>hk
  ·by_cases hb:b=a
   ·exact .inr ⟨_,_,if_pos hb⟩
   ·exact .inl (if_neg hb)
  ·by_cases hb:b=a
   ·have z':=(if_pos hb).symm.trans z
    cases z'
    subst hb
    exact⟨ha,by rw[List.length_map];exact hl,vs,_,rv,ha⟩
   ·have z':=(if_neg hb).symm.trans z
    cases z'
  ·by_cases hb:b=a
   ·exact hb
   ·exact absurd (if_neg hb) z
end L2
namespace L2
open PySem PySem.Spec PyProof.Rows
noncomputable abbrev BF {K:PySem.W.Frag} {h:Heap} (_:K.In h):PySem.W.Frag:=K
theorem KZ {l:PySem.W.OpenLaw} {n k:Nat} {q:Program} {loose:List Str} {XP:(Str→Option Value)→Heap→Prop} {YP:World→Heap→Prop} {d:DefRec} {K:Params→PySem.W.Frag} {CX:World→u3} {sp:World→Sp} {x:Str}
  (hn:l.most=some n) (hn2:n≤sizeLine) (hdf:d.params.defaults=[]) (hr:kW k callerA)
  (hY:∀(w:World) (h:Heap),YP w h→(K w.params).In h)
  (F:∀(w:World) (mg:Str→Option Value) (fa:Addr) (h:Heap),(K w.params).In h→h.Ns mainGlobals mg→mg d.name=some (.ref fa)→
   ∃fd:FuncData,(∀(s:Shared) (u:Value),BindsTo s fd ⟨[u],[]⟩ [(x,u)])∧
    ∀base:Heap,(K w.params).In base→base.Ns mainGlobals mg→qW l.prog w (K w.params) mg base (CX w) k fa fd [x] (sp w))
  (hsp:∀(w:World) (H:Hp) (a:Addr) (ns:List Int),ns.length≤n→Z8 H→jx (K w.params) H a (ns.map V.int)→sp w [.ref a] H (fun v _=>v=.bl true) fun _ _ _=>False)
  (hCX:∀(w:World) (H:Hp) (s:Shared) (e:Value) (s':Shared),CX w [] H s (fun _ _ _=>False) e s'→False) :
  PySem.W.WalkO q loose XP YP l.row.toRowW d [] (fun f vs=>PySem.call f vs):=by
 refine Att.tS hn hdf fun w s₀ s₁ mg mb fa o pm cd doc a vs ns G Y ho hd hcd hmg hobj hints hlen hg=>?_
 have KX:=hY w _ Y
 obtain⟨fd,hb,hF⟩:=F w mg fa _ KX G.T.g hmg
 exact QH KX G.T.g G.T.b G.T.builtins G.T.nolimit hg hobj hints (Nat.le_trans hlen hn2) hr hF hb (fun H hO hS=>hsp w H a ns hlen hO hS) fun H e s'=>hCX w H s₁ e s'
theorem JN {l:PySem.W.OpenLaw} {n k:Nat} {q:Program} {loose:List Str} {XP:(Str→Option Value)→Heap→Prop} {YP:World→Heap→Prop} {d:DefRec} {K:Params→PySem.W.Frag} {CX:u3} {sp:PySem.W.Frag→Sp} {x:Str}
  (hn:l.most=some n) (hn2:n≤sizeLine) (hdf:d.params.defaults=[]) (hr:kW k callerA)
  (hY:∀(w:World) (h:Heap),YP w h→(K w.params).In h)
  (F:∀(w:World) (mg:Str→Option Value) (fa:Addr) (h:Heap),(K w.params).In h→h.Ns mainGlobals mg→mg d.name=some (.ref fa)→
   ∃fd:FuncData,(∀(s:Shared) (u:Value),BindsTo s fd ⟨[u],[]⟩ [(x,u)])∧
    ∀base:Heap,(K w.params).In base→base.Ns mainGlobals mg→qW l.prog w (K w.params) mg base CX k fa fd [x] (sp (K w.params)))
  (hsp:∀(K:PySem.W.Frag) (H:Hp) (a:Addr) (ns:List Int),ns.length≤n→Z8 H→jx K H a (ns.map V.int)→sp K [.ref a] H (fun v _=>v=.bl true) fun _ _ _=>False)
  (hCX:∀(H:Hp) (s:Shared) (e:Value) (s':Shared),CX [] H s (fun _ _ _=>False) e s'→False) :
  PySem.W.WalkO q loose XP YP l.row.toRowW d [] (fun f vs=>PySem.call f vs):=
 KZ (K:=K) (CX:=fun _=>CX) (sp:=fun w=>sp (K w.params)) hn hn2 hdf hr hY F (fun w H a ns h1 h2 h3=>hsp (K w.params) H a ns h1 h2 h3) fun _ H s e s'=>hCX H s e s'
end L2
namespace L2
open PySem PySem.Spec PyProof.Rows
noncomputable def inClass (s:Stmt) (j:Nat):Stmt:=match s with
 | .ClassDef _ _ _ body _ _ _ _ _ _ _=>body.getD j (.Pass ⟨0,0,0,0⟩)
 | _=>.Pass ⟨0,0,0,0⟩
noncomputable def qg (s:Stmt):Arguments:=match s with
 | .FunctionDef _ a _ _ _ _ _ _ _ _=>a
 | _=>{ posonlyargs:=[],args:=[],vararg:=none,kwonlyargs:=[],kw_defaults:=[],kwarg:=none,defaults:=[] }
noncomputable def qy (s:Stmt):List Stmt:=match s with
 | .FunctionDef _ _ b _ _ _ _ _ _ _=>b
 | _=>[]
noncomputable def z7 (s:Stmt):Scope:=match s with
 | .FunctionDef _ _ _ _ _ _ sc _ _ _=>sc
 | _=>{ kind:=.function,names:=[],isGenerator:=false,isCoroutine:=false }
noncomputable abbrev jW:u3:=fun _ _ _ _ _ _=>False
noncomputable abbrev E0:XK:=fun _ _ _=>False
theorem qY {X:Cx}:Passes jW X E0:=fun _ _ _ _ _ _ _ h=>h.elim
structure J9 (K:PySem.W.Frag) (x qual:Str) (st:Stmt) (f:Addr) (fd:FuncData):Prop where
 ex:∃(oc:Value) (od:Option Addr) (kV doc pm:Value) (an:Option Addr) (cdv ct:Value) (osl:Array (Option Value)),
  fd=PySem.W.fnOf x qual (qg st) (qy st) (z7 st) .none kV doc pm an cdv ct∧K.lookup f=some ⟨oc,od,.func fd,osl⟩∧PySem.W.codeIn K cdv qual=true
 kp:PySem.W.keepIn K (.ref f)=true
section
variable {P:Program} {w:World} {K:PySem.W.Frag} {mg:Str→Option Value} {base:Heap}
theorem J9.ok {x qual:Str} {st:Stmt} {f:Addr} {fd:FuncData} {N ps:List Str} {k:Nat} {sp:Sp} (F:J9 K x qual st f fd) (S:qV N ps (z7 st)) (len:∀vs H Q E,sp vs H Q E→vs.length=ps.length)
  (hbody:∀(cdv:Value) (A:Around) (outer:List Env) (s:Shared) (H:Hp) (vs:List V) (Q:VK) (E:XK),kW k (A.deeper (envOfC qual (z7 st) s.heap.objs.size f cdv))→sp vs H Q E→
   ∃t,ij (lO jW P w K mg base N qual (z7 st) f cdv A outer s H E).GO (qy st) t∧t { nx:=fun _ H'=>Q .non H',rt:=Q } (start N vs) H):qW P w K mg base jW (k + 1) f fd ps sp:=by
 obtain⟨oc,od,kV,doc,pm,an,cdv,ct,osl,rfl,lk,hcd⟩:=F.ex
 refine KN lk hcd S len fun A outer s H vs Q E hr hsp=>?_
 obtain⟨t,h,q⟩:=hbody cdv A outer s H vs Q E hr hsp
 exact⟨t,h.GO,q⟩
theorem J9.binds {x qual:Str} {st:Stmt} {f:Addr} {fd:FuncData} {ps:List Str} (F:J9 K x qual st f fd)
  (h:∀(kV doc pm:Value) (an:Option Addr) (cdv ct:Value) (us:List Value),us.length=ps.length→bindArgs (PySem.W.fnOf x qual (qg st) (qy st) (z7 st) .none kV doc pm an cdv ct) ⟨us,[]⟩=pure (ps.zip us)):Binds K fd ps []:=by
 obtain⟨oc,od,kV,doc,pm,an,cdv,ct,osl,rfl,lk,hcd⟩:=F.ex
 exact .all (h kV doc pm an cdv ct)
theorem qF {x qual:Str} {st:Stmt} {f:Addr} {oc:Value} {od an:Option Addr} {osl:Array (Option Value)} {kV doc pm cdv ct:Value} (l:K.lookup f=some ⟨oc,od,.func (PySem.W.fnOf x qual (qg st) (qy st) (z7 st) .none kV doc pm an cdv ct),osl⟩)
  (c:PySem.W.codeIn K cdv qual=true) (k:PySem.W.keepIn K (.ref f)=true):J9 K x qual st f (PySem.W.fnOf x qual (qg st) (qy st) (z7 st) .none kV doc pm an cdv ct):=⟨⟨oc,od,kV,doc,pm,an,cdv,ct,osl,rfl,l,c⟩,k⟩
end
theorem ak {A:Around} {k:Nat} (hr:kW k A):A.units + 1 < cLine:=Nat.lt_of_le_of_lt (Nat.add_le_add_left (by decide:1≤64) _) hr.units
theorem da {n:Nat} (h:n≤1000):n < sizeLine:=Nat.lt_of_le_of_lt h (by decide)
section
variable {X:Cx}
theorem pv (i:Nat) {x:Str} {pos:Pos} (hN:X.N[i]?=some x:=by rfl) (hv:GC X.env.scope x:=by first | exact Or.inl rfl | exact Or.inr (Or.inl rfl) | exact Or.inr (Or.inr rfl)) (hd:(x == ("__debug__" : Str))=false:=by decide)
  (hcd:(x == ("__classdict__" : Str))=false:=by decide):PE X (.Name x pos) (GV i):=WQ hN hv hd hcd
end
theorem yR {A B:Prop} (h:B):if false=true then A else B:=by
 rw[if_neg Bool.false_ne_true]
 exact h
theorem sv {A B:Prop} (h:A):if true=true then A else B:=by
 rw[if_pos rfl]
 exact h
theorem jy {c A B:Prop} [Decidable c] (h1:c→A) (h2:¬c→B):if c then A else B:=by
 by_cases h:c
 ·rw[if_pos h]
  exact h1 h
 ·rw[if_neg h]
  exact h2 h
theorem YB {c A B:Prop} [Decidable c] (hc:c) (h:B):if (!decide c)=true then A else B:=by
 rw[decide_eq_true hc]
 exact yR h
noncomputable def qf (H H':Hp):Prop:=∀b o,H b=some o→H' b=some o
theorem qf.refl (H:Hp):qf H H:=fun _ _ h=>h
theorem qf.trans {H H1 H2:Hp} (a:qf H H1) (b:qf H1 H2):qf H H2:=fun c o h=>b c o (a c o h)
theorem qf.free {H H':Hp} (e:qf H H') {l:Addr} (h:H' l=Option.none):H l=Option.none:=by
 cases q:H l with
 | none=>rfl
 | some o=>
  rw[e l o q] at h
  cases h
theorem qf.seq {K:PySem.W.Frag} {H H':Hp} {a:Addr} {xs:List V} (e:qf H H') (h:jx K H a xs):jx K H' a xs:=by
 rcases h with (h | ⟨o,h⟩) | h
 ·exact .inl (.inl (e _ _ h))
 ·exact .inl (.inr ⟨o,e _ _ h⟩)
 ·exact .inr h
end L2
namespace L2
open PySem PySem.Spec PyProof.Rows
section
variable {X:Cx}
end
noncomputable def GF (z:Str):It:=⟨fun i _=>i < z.length,fun i H x H'=>H'=H∧∃c,z.cps[i]?=some c∧x=.str ⟨#[c]⟩,fun i _=>i=z.length⟩
theorem lG {prog:Program} {w:World} {A:Around} (hh:A.handled=none) (I:Addr) (x:Str) (t:Tok) :
  Walks prog w A I [I] [I] x.cps.size (SignAt x) (fun i h=>h.IsStrIter I (strIterType x) x t i):=by
 unfold strIterType
 split
 ·exact Walks.strAscii hh I x t
 ·exact Walks.strWide hh I x t
theorem rf (z:Str):["enumerate","zip","dict_itemiterator","dict_reverseitemiterator","odict_iterator","itertools.zip_longest","itertools.pairwise"].contains (strIterType z)=false:=by
 unfold strIterType
 split<;>decide
theorem JU {P:Program} {w:World} {K:PySem.W.Frag} {tg:Expr} (z:Str) (t:Tok) (it:Addr):Turn P w K tg (GF z) [it] it (fun i h=>h.IsStrIter it (strIterType z) z t i) where
 mem:=by simp
 obj:=fun i h st b hb=>by
  have e:b=it:=by simpa using hb
  subst e
  obtain⟨o,e,c,d⟩:=st
  exact⟨o,e,fun v q=>by rw[d] at q;cases q⟩
 keep:=fun i h h' st k=>by
  obtain⟨o,e,r⟩:=st
  exact⟨o,k it (by simp) o e,r⟩
 item:=by
  intro X hP hw hK hc i pins s σ H E I hf st hg
  subst hP hw hK
  obtain⟨f0,f1,f2,f3,f4,f5⟩:=hf it (by simp)
  have W:=lG (prog:=X.prog) (w:=X.w) (I.ok.hd hc) it z t
  refine W.item i s _ _ (show i < z.cps.size from hg) st fun v h' tk hv st' kk=>?_
  obtain⟨c,u,hcx,rfl⟩:=hv
  have I1:Inv X pins σ H { s with heap:=h',toks:=tk }:=I.turned (fun b o hb e=>kk b o (by simpa using hb) e) f0 f1 f3 f4 f5
  obtain⟨o,e,hcl,d⟩:=id st'
  exact⟨_,rfl,QQ (s:={ s with heap:=h',toks:=tk }) e hcl d (rf z) ⟨.str ⟨#[c]⟩,H,I1,⟨u,rfl⟩,⟨rfl,c,hcx,rfl⟩,st',fun b hb=>(hf b hb).1⟩⟩
 done:=by
  intro X hP hw hK hc i pins s σ H E I hf st hg
  subst hP hw hK
  obtain⟨f0,f1,f2,f3,f4,f5⟩:=hf it (by simp)
  have hi:i=z.length:=hg
  subst hi
  have W:=lG (prog:=X.prog) (w:=X.w) (I.ok.hd hc) it z t
  exact W.done s _ _ st fun h' tk kk=>⟨rfl,I.turned (fun b o hb e=>kk b o (by simpa using hb) e) f0 f1 f3 f4 f5⟩
 self:=fun A i s Q E st h=>by
  revert st
  unfold strIterType
  split
  ·intro st
   exact wpAny_pyIter_striter_ascii st h
  ·intro st
   exact wpAny_pyIter_striter_wide st h
section
variable {X:Cx} {tg:Expr}
noncomputable def HD (tl:TE):TI:=fun σ H R=>tl σ H fun x H1=>∃z,x=.str z∧R (GF z) H1
theorem WX {l:Expr} {tl:TE} (hl:PE X l tl):PI X tg l (HD tl):=by
 intro pins s σ H R I h
 refine xy (hl pins s σ H _ I h) fun v s1 ⟨x,H1,I1,r1,q1⟩=>?_
 obtain⟨z,e,q⟩:=q1
 subst e
 obtain⟨t,rfl⟩:=r1
 refine wpAny_pyIter_strU ?_
 refine⟨s1.heap.objs.size,[s1.heap.objs.size],_,_,H1,rfl,I1.kept (t':=s1.toks) fun b o e=>Heap.get?_push_of_some _ e,JU z t _,⟨_,Heap.get?_push_size _ rfl,rfl,rfl⟩,fun b hb=>?_,q⟩
 have e:b=s1.heap.objs.size:=by simpa using hb
 subst e
 exact I1.Zk (Nat.le_refl _) (I1.jw.fresh (Nat.le_refl _))
end
noncomputable def Bp:V→Option Int→Option Int→Hp→VK→Prop:=fun x lo hi H Q=>∃z,x=.str z∧z.length≤sizeLine∧Q (.str (Txt.slice z lo hi)) H
section
variable {X:Cx}
theorem WN:KY X Bp:=by
 intro pins s σ H x v vl vu lo hi sl Q I rx hs pl pu h
 obtain⟨z,rfl,hz,q⟩:=h
 obtain⟨t,rfl⟩:=rx
 refine⟨"str",_,PySem.F.slot_str_getitem.lookup,typeIs_str _ _ _,?_⟩
 obtain⟨o,ho,hc,hd⟩:=hs
 have fin:∀t' k,EP X pins σ Q (.str (Txt.slice z lo hi) t') { s with toks:=k }:=fun t' k=>⟨.str (Txt.slice z lo hi),H,I.tok _,⟨t',rfl⟩,q⟩
 cases pl with
 | none=>
  cases pu with
  | none=>exact wpAny_getItem_str_slice (l:=none) (u:=none) (st:=none) ⟨o,ho,hc,hd⟩ rfl (post_val_or_str ⟨Nat.le_trans (Txt.slice_le z _ _) hz,fin⟩)
  | int j uj=>exact wpAny_getItem_str_slice (l:=none) (u:=some (j,uj)) (st:=none) ⟨o,ho,hc,hd⟩ rfl (post_val_or_str ⟨Nat.le_trans (Txt.slice_le z _ _) hz,fin⟩)
 | int i ui=>
  cases pu with
  | none=>exact wpAny_getItem_str_slice (l:=some (i,ui)) (u:=none) (st:=none) ⟨o,ho,hc,hd⟩ rfl (post_val_or_str ⟨Nat.le_trans (Txt.slice_le z _ _) hz,fin⟩)
  | int j uj=>exact wpAny_getItem_str_slice (l:=some (i,ui)) (u:=some (j,uj)) (st:=none) ⟨o,ho,hc,hd⟩ rfl (post_val_or_str ⟨Nat.le_trans (Txt.slice_le z _ _) hz,fin⟩)
theorem i3 {ns:List Str}:∀{us:List Value},Vals (ns.map V.str) us→StrsAre us ns:=by
 induction ns with
 | nil=>intro us h;cases h;exact .nil
 | cons n ns ih=>
  intro us h
  cases h with
  | cons r t=>
   obtain⟨tk,rfl⟩:=r
   exact .cons n tk (ih t)
noncomputable def rJoin (K:PySem.W.Frag):V→List V→Hp→VK→Prop:=fun x vs H Q=>∃z p ys,x=.str z∧vs=[.ref p]∧jx K H p (ys.map V.str)∧(ys.map (·.length)).sum + ys.length * z.length≤16777216∧Q (.str (Txt.join z ys)) H
theorem XX:ZT X "str.join" (rJoin X.K):=by
 intro pins s σ H x vs v us Q I rx rv h
 obtain⟨z,p,ys,rfl,rfl,hq,hz,q⟩:=h
 obtain⟨t,rfl⟩:=rx
 obtain⟨u,rfl,ru⟩:=rv.one
 cases ru
 obtain⟨its,r,pl,_⟩:=I.list hq
 exact join_list pl.isList (i3 (by simpa using r)) hz fun t' k=>⟨.str (Txt.join z ys),H,I.tok _,⟨t',rfl⟩,q⟩
noncomputable def Gw:R2:=fun x y H Q=>∃z n,x=.str z∧y=.int n∧MulOk z n∧Q (.str (Txt.mul z n)) H
theorem iF:bL X (binaryOp .Mult) Gw:=by
 intro pins s σ H x y v u Q I rx ry h
 obtain⟨z,n,rfl,rfl,hm,q⟩:=h
 obtain⟨t,rfl⟩:=rx
 obtain⟨t',rfl⟩:=ry
 exact SB.mul hm fun t' k=>⟨.str (Txt.mul z n),H,I.tok _,⟨t',rfl⟩,q⟩
noncomputable def BC:V→List V→Hp→VK→Prop:=fun x vs H Q=>∃z y,x=.str z∧vs=[.str y]∧Q (.int (Txt.find z y)) H
theorem rq:kA X (.type "int") (fun xs H Q=>∃z n,xs=[.str z]∧PySem.intText? z=some n∧z.length≤640∧Q (.int n) H):=by
 intro pins s σ H xs us Q I r h
 obtain⟨z,n,rfl,hn,hl,q⟩:=h
 obtain⟨u,rfl,t,rfl⟩:=vals1 r
 exact PySem.W.KIN.call_text hn hl ⟨.int n,H,I.tok _,⟨_,rfl⟩,q⟩
noncomputable def Qp:V→Value
 | .ty n=>.type n
 | .ref a=>.ref a
 | _=>.none
theorem tI:kA X (.builtin "isinstance") (fun xs H Q=>∃x c t b,xs=[x,c]∧((∃n,c=.ty n)∨∃a,c=.ref a)∧bq X.K H x t∧PySem.W.kitOne X.K t (Qp c)=some b∧Q (.bl b) H):=by
 intro pins s σ H xs us Q I r h
 obtain⟨x,c,t,b,rfl,hc,ty,hk,q⟩:=h
 obtain⟨u,u',rfl,rx,rc⟩:=vals2 r
 have e:u'=Qp c:=by
  rcases hc with ⟨n,rfl⟩ | ⟨a,rfl⟩
  ·exact rc
  ·exact rc
 subst e
 exact Zy I rx ty hk fun tk=>⟨.bl b,H,I.tok _,rfl,q⟩
theorem range_all (bs:List Bool):(List.range bs.length).all (fun i=>bs.getD i true)=bs.all id:=by
 rw[Bool.eq_iff_iff,List.all_eq_true,List.all_eq_true]
 constructor
 ·intro h x hx
  obtain⟨i,hi,e⟩:=List.getElem_of_mem hx
  have:=h i (List.mem_range.mpr hi)
  rw[List.getD_eq_getElem?_getD,List.getElem?_eq_getElem hi] at this
  rw[←e]
  exact this
 ·intro h i hi
  have hi':=List.mem_range.mp hi
  rw[List.getD_eq_getElem?_getD,List.getElem?_eq_getElem hi']
  exact h _ (List.getElem_mem hi')
theorem gs (hc:X.calm=true):kA X (.builtin "all") (fun xs H Q=>∃(p:Addr) (bs:List Bool),xs=[.ref p]∧jx X.K H p (bs.map V.bl)∧Q (.bl (bs.all id)) H):=by
 intro pins s σ H xs us Q I r h
 obtain⟨p,bs,rfl,hq,q⟩:=h
 obtain⟨u,rfl,ru⟩:=vals1 r
 cases ru
 obtain⟨its,rv,pl,_⟩:=I.list hq
 have hl:=rv.length
 rw[List.length_map] at hl
 refine call_all_walk (wpAny_pyIter_list pl.isList ?_)
 have hne:p≠s.heap.objs.size:=Nat.ne_of_lt (by obtain⟨o,n,e,_⟩:=pl;exact Heap.lt_size e)
 refine⟨s.heap.objs.size,_,_,_,_,_,fun i=>bs.getD i true,rfl,Walks.list (show X.A.in1.handled=none from I.ok.hd hc) s.heap.objs.size p hne its.toArray,⟨⟨_,Heap.get?_push_size _ rfl,rfl,rfl⟩,?_⟩,?_,?_⟩
 ·obtain⟨o,e,rest⟩:=pl.isList
  exact⟨o,Heap.get?_push_of_some _ e,rest⟩
 ·intro i v s' Q' E' hv hQ'
  have hv':its[i]?=some v:=by simpa using hv
  have hi:i < bs.length:=by rw[hl];exact(List.getElem?_eq_some_iff.mp hv').1
  obtain⟨u,e1,e2⟩:=rv.get (i:=i) (x:=V.bl bs[i]) (by rw[List.getElem?_map,List.getElem?_eq_getElem hi];rfl)
  rw[hv'] at e1
  cases e1
  cases e2
  dsimp only at hQ'
  rw[List.getD_eq_getElem?_getD,List.getElem?_eq_getElem hi] at hQ'
  exact wpAny_truthy_bool hQ'
 ·intro h' tk kk
  have I1:Inv X pins σ H { s with heap:=h',toks:=tk }:=I.kept fun b o e=>kk b o (by
   intro z
   have z':b=s.heap.objs.size:=by simpa using z
   exact absurd (Heap.lt_size e) (by rw[z'];exact Nat.lt_irrefl _)) (Heap.get?_push_of_some _ e)
  refine⟨.bl _,H,I1,?_,q⟩
  show Value.bool _=Value.bool _
  rw[List.size_toArray,←hl,range_all]
mutual
inductive lF (K:PySem.W.Frag) (H:Hp):V→PyData→Prop where
 | non:lF K H .non .none
 | bl (b:Bool):lF K H (.bl b) (.bool b)
 | int (i:Int):lF K H (.int i) (.int i)
 | str (x:Str):lF K H (.str x) (.str x)
 | lst {a:Addr} {xs:List V} {ds:List PyData}:jx K H a xs→bz K H xs ds→lF K H (.ref a) (.list ds)
 | tup {a:Addr} {xs:List V} {ds:List PyData}:fz K H a xs→bz K H xs ds→lF K H (.ref a) (.tuple ds)
inductive bz (K:PySem.W.Frag) (H:Hp):List V→List PyData→Prop where
 | nil:bz K H [] []
 | cons {x:V} {xs:List V} {d:PyData} {ds:List PyData}:lF K H x d→bz K H xs ds→bz K H (x :: xs) (d :: ds)
end
mutual
theorem lF.reads {pins:List (Addr × Obj)} {σ:St} {H:Hp} {s:Shared} (I:Inv X pins σ H s):∀{x:V} {d:PyData} {v:Value},lF X.K H x d→RelV x v→∃as,Reads s.heap v d as
 | _,_,_,.non,r=>by cases r;exact⟨_,.none⟩
 | _,_,_,.bl b,r=>by cases r;exact⟨_,.bool b⟩
 | _,_,_,.int i,r=>by obtain⟨t,rfl⟩:=r;exact⟨_,.int i t⟩
 | _,_,_,.str x,r=>by obtain⟨t,rfl⟩:=r;exact⟨_,.str x t⟩
 | _,_,_,.lst hq rs,r=>by
  cases r
  obtain⟨its,rv,pl,_⟩:=I.list hq
  obtain⟨as,ra⟩:=bz.reads I rs rv
  obtain⟨o,n,e,c,_,d⟩:=pl
  exact⟨_,.list e c d (by simpa using ra)⟩
 | _,_,_,.tup hq rs,r=>by
  cases r
  obtain⟨its,rv,pl,_⟩:=I.tuple hq
  obtain⟨as,ra⟩:=bz.reads I rs rv
  obtain⟨o,e,c,n,d⟩:=pl
  exact⟨_,.tuple e c d (by simpa using ra)⟩
theorem bz.reads {pins:List (Addr × Obj)} {σ:St} {H:Hp} {s:Shared} (I:Inv X pins σ H s):∀{xs:List V} {ds:List PyData} {vs:List Value},bz X.K H xs ds→Vals xs vs→∃as,ReadsAll s.heap vs ds as
 | _,_,_,.nil,r=>by cases r;exact⟨_,.nil⟩
 | _,_,_,.cons q qs,r=>by
  cases r with
  | cons r rs=>
   obtain⟨as,ra⟩:=lF.reads I q r
   obtain⟨bs,rb⟩:=bz.reads I qs rs
   exact⟨_,.cons ra rb⟩
end
noncomputable def X0 (K:PySem.W.Frag) (neg:Bool):R2:=fun x y H Q=>∃d e,lF K H x d∧lF K H y e∧SeqAt.shaped d=true∧SeqAt.shaped e=true∧Q (.bl (if neg then !PyData.eqv d e else PyData.eqv d e)) H
theorem Wl (hu:X.A.units + 64 < cLine):bL X (compareOp .Eq) (X0 X.K false):=by
 intro pins s σ H x y v u Q I rx ry h
 obtain⟨d,e,h1,h2,h3,h4,q⟩:=h
 obtain⟨as,ra⟩:=h1.reads I rx
 obtain⟨bs,rb⟩:=h2.reads I ry
 exact eq_dataH ra rb h3 h4 hu ⟨.bl _,H,I,rfl,q⟩
theorem Ws (hu:X.A.units + 64 < cLine):bL X (compareOp .NotEq) (X0 X.K true):=by
 intro pins s σ H x y v u Q I rx ry h
 obtain⟨d,e,h1,h2,h3,h4,q⟩:=h
 obtain⟨as,ra⟩:=h1.reads I rx
 obtain⟨bs,rb⟩:=h2.reads I ry
 exact ne_dataH ra rb h3 h4 hu ⟨.bl _,H,I,rfl,q⟩
theorem bz.strs {K:PySem.W.Frag} {H:Hp}:∀xs:List Str,bz K H (xs.map V.str) (xs.map PyData.str)
 | []=>.nil
 | x :: r=>.cons (.str x) (bz.strs r)
theorem eqvAll_map {α : Type} [DecidableEq α] {f : α → PyData} (hf : ∀ x y, PyData.eqv (f x) (f y) = decide (x = y)) (xs : List α) : ∀ ys : List α, PyData.eqvAll (xs.map f) (ys.map f) = decide (xs = ys) := by
  induction xs with
  | nil => intro ys; cases ys <;> simp [PyData.eqvAll]
  | cons x r ih =>
    intro ys
    cases ys
    · simp [PyData.eqvAll]
    · simp [PyData.eqvAll, hf, ih]
theorem dG (xs ys : List Str) : PyData.eqvAll (xs.map PyData.str) (ys.map PyData.str) = decide (xs = ys) := eqvAll_map (fun x y => by rw [PyData.eqv]; by_cases h : x = y <;> simp [h]) xs ys
theorem dY:∀xs:List Str,(∀x∈xs,PyData.strOk x=true)→PyData.canLayAll0 (xs.map PyData.str)=true∧PyData.depthAll (xs.map PyData.str)=0
 | [],_=>⟨rfl,rfl⟩
 | x :: r,h=>by
  have q:=dY r fun y hy=>h y (List.mem_cons_of_mem _ hy)
  simp [PyData.canLayAll0,PyData.canLay0,PyData.depthAll,PyData.depth,q.1,q.2,h x List.mem_cons_self]
theorem wU {xs:List Str} (h:∀x∈xs,PyData.strOk x=true):SeqAt.shaped (.list (xs.map PyData.str))=true:=by
 have q:=dY xs h
 simp [SeqAt.shaped,PyData.canLay0,PyData.depth,q.1,q.2]
end
section
variable {X:Cx} {CX:u3} {k:Nat} {f C:Addr} {fd:FuncData} {ps:List Str} {sp:Sp} {dvs:List V} {ds:List Value} {E:XK} {x m:Str} {p pos apos:Pos} {e:Expr} {es:List Expr} {t:TA}
structure Z2 (K:PySem.W.Frag) (C:Addr) (m:Str) (f:Addr):Prop where
 ga:PySem.W.specialIn K (.ref C) "__getattribute__" = some (some (.builtin "type.__getattribute__"))
 rd:PySem.W.readsIn K C (.type "type")=true
 at_:PySem.W.findCls K (.ref C) (.type "type") m=some (.val (.ref f))
 kp:PySem.W.keepIn K (.ref f)=true
theorem uQ {pl:Sem Bool} (hg:Gl X x) (hm:X.mg x=some (.ref C)) (c:Z2 X.K C m f) (F:qW X.prog X.w X.K X.mg X.base CX k f fd ps sp) (hr:kW k X.A) (hb:Binds X.K fd ps ds) (hd:Vals dvs ds) (hx:Passes CX X E) (ha:PA X (e :: es) t)
  (hst:starEach (e :: es) X.env=(false,eval e X.env) :: starEach es X.env:=by rfl) (hpl:(backTo pos (starEach es X.env)).any (·.1)=false:=by rfl) (hdb:(x == ("__debug__" : Str))=false:=by decide)
  (ht:eval (.Call (.Attribute (.Name x p) m apos) (e :: es) [] pos) X.env=(do
   let ov ←eval (.Name x p) X.env
   standAt apos.atName
   let (f,first) ←holding [ov] (getMethod ov m pl)
   callWith pos f first (backTo pos (starEach (e :: es) X.env)) (backToKw pos (keywordEach [] X.env))):=by rfl) :
  PE X (.Call (.Attribute (.Name x p) m apos) (e :: es) [] pos) (JD sp dvs E t):=by
 intro pins s σ H Q I h
 refine PySem.W.methodCall_KW (pl:=pl) (gb I hg hm ?_ hdb) ht
 refine PySem.W.method_cls I.gB c.ga (PySem.W.cls_value I.gB c.rd c.at_ rfl ?_)
 refine PySem.W.callWith_K (first:=[]) (h₀:=X.base) I.ok.mod.ZA c.kp (xy (ha pos pins _ σ H _ (I.tok _) h) fun us s1 ⟨vs,H1,I1,r,q⟩=>⟨I1.gB,?_⟩) hst hpl
 exact sI F hr hb hd hx I1 r q
end
end L2
namespace L2
open PySem PySem.Spec PyProof.Rows
noncomputable def jb (env:Env):List (Str × NameKind)→List (Str × Addr)→List (Str × Addr)
 | [],acc=>acc
 | (n,k) :: r,acc=>jb env r (if k == .free then (n,(env.cells.lookup n).getD 0) :: acc else acc)
theorem fq {sc:Scope} {env:Env} (h:∀y∈sc.names,y.2=.free→∃c,env.cells.lookup y.1=some c):closureFor sc env=pure (jb env sc.names []):=by
 simp only[closureFor]
 have key:∀(l:List (Str × NameKind)) (acc:List (Str × Addr)),(∀y∈l,y.2=.free→∃c,env.cells.lookup y.1=some c)→
   (forIn l acc (fun (x:Str × NameKind) (r:List (Str × Addr))=>if (x.2 == NameKind.free)=true then do let a ←cellOf env x.1;pure (ForInStep.yield ((x.1,a) :: r)) else pure (ForInStep.yield r)):Sem (List (Str × Addr)))=pure (jb env l acc):=by
  intro l
  induction l with
  | nil=>intro acc _;rfl
  | cons y r ih=>
   intro acc hl
   obtain⟨n,k⟩:=y
   rw[List.forIn_cons]
   have ih':=fun acc=>ih acc fun z hz=>hl z (List.mem_cons_of_mem _ hz)
   by_cases hk:(k == NameKind.free)=true
   ·obtain⟨c,hc⟩:=hl (n,k) List.mem_cons_self (by simpa using hk)
    have hc':env.cells.lookup n=some c:=hc
    have e1:cellOf env n=pure c:=by unfold cellOf;rw[hc']
    simp only[hk,if_true,e1,jb,hc',Option.getD_some]
    exact ih' _
   ·simp only[hk,jb]
    exact ih' _
 rw[key sc.names [] h]
 rfl
theorem k7 {env:Env}:∀(l:List (Str × NameKind)) (acc:List (Str × Addr)),(∀z c,acc.lookup z=some c→c=(env.cells.lookup z).getD 0)→
  (∀z c,(jb env l acc).lookup z=some c→c=(env.cells.lookup z).getD 0)∧(∀z,(jb env l acc).lookup z=none↔(acc.lookup z=none∧(z,NameKind.free)∉l))
 | [],acc,h=>⟨h,fun z=>by simp [jb]⟩
 | (n,k) :: r,acc,h=>by
  by_cases hk:(k == NameKind.free)=true
  ·have hk':k=.free:=by simpa using hk
   subst hk'
   have h':∀z c,((n,(env.cells.lookup n).getD 0) :: acc).lookup z=some c→c=(env.cells.lookup z).getD 0:=by
    intro z c e
    rw[List.lookup_cons] at e
    cases hz:z == n with
    | true=>
     rw[hz] at e
     have e':(env.cells.lookup n).getD 0=c:=by simpa using e
     rw[beq_iff_eq.mp hz,e']
    | false=>
     rw[hz] at e
     exact h z c (by simpa using e)
   obtain⟨a,b⟩:=k7 r _ h'
   refine⟨by simpa [jb] using a,fun z=>?_⟩
   have b':=b z
   show (jb env r (if (NameKind.free == NameKind.free)=true then _ else acc)).lookup z=none↔_
   rw[if_pos hk,b',List.lookup_cons]
   cases hz:z == n with
   | true=>
    have:z=n:=beq_iff_eq.mp hz
    subst this
    simp
   | false=>
    have hne:z≠n:=by intro q;subst q;simp at hz
    simp [hne]
  ·obtain⟨a,b⟩:=k7 r acc h
   have e0:jb env ((n,k) :: r) acc=jb env r acc:=by
    show jb env r (if (k == NameKind.free)=true then _ else acc)=_
    rw[if_neg hk]
   rw[e0]
   refine⟨a,fun z=>?_⟩
   rw[b z]
   have hne:¬(NameKind.free=k):=by intro q;subst q;exact hk rfl
   simp [hne]
/-- a map that Wj the keys alone changes what stands behind a key, and nothing else -/
theorem lookup_vals {α β : Type} {f : Str × α → Str × β} (hf : ∀ p, (f p).1 = p.1) (x : Str) (l : List (Str × α)) : (l.map f).lookup x = (l.lookup x).map fun k => (f (x, k)).2 := by
  induction l with
  | nil => rfl
  | cons p r ih =>
    obtain ⟨n, k⟩ := p
    have e : f (n, k) = (n, (f (n, k)).2) := Prod.ext (hf _) rfl
    rw [List.map_cons, e]
    by_cases q : x = n
    · subst q
      simp [List.lookup_cons]
    · simp [List.lookup_cons, beq_false_of_ne q, ih]
theorem kc {env : Env} {sc : Scope} {x : Str} : (relabel sc env).names.lookup x = (sc.names.lookup x).map fun k => if k == .free && env.scope.kind == .function && env.kindOf x == some .cell then .cell else k := by
  show (List.map _ sc.names).lookup x = _
  rw [lookup_vals (fun p => by dsimp only; split <;> rfl)]
  congr 1
  funext k
  dsimp only
  split <;> rfl
structure gK (osc:Scope) (N:List Str) (sc:Scope) (x:Str) (names:List Str) (qS:List Nat):Prop where
 kind:sc.kind=.function
 ub:∀y∈sc.names,y.2≠.cell
 locs:∀y∈sc.names,y.2=.local→sc.names.lookup y.1=some .local
 frees:∀y∈sc.names,y.2=.free→osc.names.lookup y.1=some .cell
 own:sc.names.lookup x=some .local
 qS:names.map some=qS.map fun i=>N[i]?
 ie:∀y∈names,sc.names.lookup y=some .free
 nd:(x :: names).Nodup
noncomputable def wA (X:Cx) (sc:Scope) (x:Str) (names:List Str) (fp:List Addr) (s₀:Shared) (H₀:Hp):Cx where
 prog:=X.prog
 w:=X.w
 K:=X.K
 mg:=X.mg
 base:=X.base
 A:=X.A
 N:=x :: names
 s₀:=s₀
 H₀:=H₀
 env:=compEnvC sc (jb X.env sc.names []) s₀.heap.objs.size X.env
 outer:=X.stack
 stack:=X.stack
 ex:=fp
 fn:=fun _=>false
 calm:=X.calm
 pn:=[]
 xe:=fun _ _=>False
noncomputable def wI (σ:St) (qS:List Nat):St:=qS.map fun i=>(σ[i]?).join
noncomputable def Z3 (J:It) (qS:List Nat) (te:TE) (σ:St) (Q:VK) (H1:Hp):Prop:=∀D,H1 D=none→∃W:Nat→Nat→Hp→Prop,(∃m,W 0 m (upd H1 D (.lst [])))∧∀i m H2,W i m H2→
 (J.stop i H2∧Q (.ref D) H2)∨(J.go i H2∧∀y H3,J.VY i H2 y H3→te (some y :: wI σ qS) H3 fun v H4=>∃ys,H4 D=some (.lst ys)∧ys.length < sizeLine∧∃m',m' < m∧W (i + 1) m' (upd H4 D (.lst (ys ++ [v]))))
noncomputable def Ve (qS:List Nat) (wi:TI) (te:TE):TE:=fun σ H Q=>wi σ H fun J H1=>Z3 J qS te σ Q H1
/-- what comes behind what is known of a first step -/
theorem sq2 {M : Model} {A : Around} {E : Value → Shared → Prop} {s : Shared} {α β : Type} {x : Sem α} {f : α → Sem β} {Q1 : α → Shared → Prop} {Q : β → Shared → Prop} (h : wpAny M A x Q1 E s) (k : ∀ a s1, Q1 a s1 → wpAny M A (f a) Q E s1) : wpAny M A (x >>= f) Q E s := wpAny_bind (xy h k)
/-- a step of a comprehension's turn: what it raises is noted in the comprehension's own frame -/
abbrev Noted (prog : Program) (w : World) (A : Around) (env : Env) (R : Result → Shared → Prop) {α : Type} (x : Sem α) (Q : α → Shared → Prop) (s : Shared) : Prop := wpAny (model prog w) A x Q (notedBy (model prog w) A env fun e => R (.error e)) s
abbrev testB (env : Env) (c : Expr) (r : Bool) : Sem (ForInStep Bool) := if r = true then isTrue c env (eval c env) >>= fun ok => pure (.yield ok) else pure (.yield r)
section
variable {prog:Program} {w:World} {A:Around} {R:Result→Shared→Prop} {s:Shared}
theorem ng {el tg src : Expr} {scope : Scope} {pos : Pos} {it acc : Value} {env : Env} (I : Nat → Shared → Prop)
    (turn : ∀ n s, I n s → Noted prog w A env R (pyNext it) (fun r s1 => match r with
      | none => R (.ok .next) s1
      | some v => Noted prog w A env R (letOwnedTupleGo tg it v) (fun _ => Noted prog w A env R (assign tg env v) fun _ => Noted prog w A env R (eval el env) fun x => Noted prog w A env R (call (.builtin "list.append") [acc, x]) fun _ s5 => ∃ m, m < n ∧ I m s5) s1) s) (n : Nat) (h : I n s) :
    codeAny (model prog w) A (.compLoop (.ListComp el [⟨tg, src, [], 0⟩] scope pos) 0 it acc env) R s := by
  refine codeAny_loop rfl I (fun k s1 hI => (?_ : wpAny _ _ (Sem.onRaise _ _) _ _ _)) n h
  refine wpAny_noted (compTurn_list .. ▸ wpAny_bind (wpAny_standAt (sq2 (turn k s1 hI) fun r s2 hr => ?_)))
  cases r
  · exact wpAny_pure hr
  · exact sq2 hr fun _ _ a => sq2 a fun _ _ b => wpAny_bind (wpAny_tests_nil (sq2 (sq2 b fun _ _ c => sq2 c fun _ _ d => wpAny_pure d) fun _ _ e => wpAny_pure ⟨rfl, e⟩))
end
section
variable {X:Cx}
theorem VR {pins:List (Addr × Obj)} {σ:St} {H:Hp} {s:Shared} {osc:Scope} {N:List Str} {sc:Scope} {x:Str} {names:List Str} {qS:List Nat} {fp:List Addr}
  (hos:X.env.scope=osc) (cs:gK osc N sc x names qS) (I:Inv X pins σ H s) (hf:∀b∈fp,gc X pins H b) (hlt:∀b∈fp,b < s.heap.objs.size):(wA X sc x names fp s H).Ok:=by
 subst hos
 have cl:=k7 (env:=X.env) sc.names [] (fun z c e=>by simp at e)
 have hcl:∀y c,(jb X.env sc.names []).lookup y=some c→X.env.cells.lookup y=some c:=fun y c e=>by
  have e1:=cl.1 y c e
  have hm:(y,NameKind.free)∈sc.names:=by
   by_cases q:(y,NameKind.free)∈sc.names
   ·exact q
   ·have:=(cl.2 y).mpr ⟨rfl,q⟩
    rw[this] at e;cases e
  obtain⟨c',hc'⟩:=I.ok.has y (.inl (cs.frees _ hm rfl))
  rw[hc'] at e1 ⊢
  rw[e1];rfl
 refine⟨I.ok.mod,?_,I.ok.glob,I.ok.blt,Nat.le_refl _,fun y z c h1 h2=>I.ok.inj y z c (hcl y c h1) (hcl z c h2),fun y hy=>?_,fun y c h=>?_,I.ok.hd,I.ok.frames,.inl rfl,fun b hb=>⟨?_,fun y c h=>?_⟩,
  I.bs,Nat.le_trans I.ok.aI I.sz,fun b o e hb=>?_,fun b hb z=>?_,I.stack,I.p5⟩
 ·exact cs.kind
 ·have hy':(relabel sc X.env).names.lookup y=some .cell∨(relabel sc X.env).names.lookup y=some .free:=hy
  have key:sc.names.lookup y=some .free:=by
   rw[kc] at hy'
   cases q:sc.names.lookup y with
   | none=>rw[q] at hy';simp at hy'
   | some k=>
    rw[q] at hy'
    have hm:=PySem.mem_of_lookup q
    have hnc:=cs.ub _ hm
    by_cases hk:k=.free
    ·rw[hk]
    ·have e:(if (k == NameKind.free && X.env.scope.kind == .function && X.env.kindOf y == some .cell)=true then NameKind.cell else k)=k:=if_neg (by simp [hk])
     rw[Option.map_some,e] at hy'
     rcases hy' with z | z
     ·exact absurd (Option.some.inj z) hnc
     ·exact absurd (Option.some.inj z) hk
  have hm:=PySem.mem_of_lookup key
  cases q:(jb X.env sc.names []).lookup y with
  | some c=>exact⟨c,q⟩
  | none=>exact absurd hm ((cl.2 y).mp q).2
 ·exact absurd (show false=true from h) (by simp)
 ·exact Nat.ne_of_lt (hlt b hb)
 ·exact(hf b hb).2.2.2.2.1 y c (hcl y c h)
 ·rcases(hf b hb).2.2.2.1 with z | z
  ·exact I.ok.iH b o e z
  ·exact absurd (Nat.lt_of_lt_of_le (Heap.lt_size e) (Nat.le_trans I.ok.aI z)) (Nat.lt_irrefl _)
 ·rcases List.mem_cons.mp (I.uR b z) with q | q
  ·exact(hf b hb).2.1 q
  ·exact(hf b hb).2.2.1 q
theorem nh {pins:List (Addr × Obj)} {σ:St} {s₂:Shared} {osc:Scope} {N:List Str} {sc:Scope} {x:Str} {px pos:Pos} {elt iter:Expr} {names:List Str} {qS:List Nat} {te:TE} {E:Value→Shared→Prop}
  {RR:Value→Addr→Result→Shared→Prop} {H2:Hp} {it:Addr} {fp:List Addr} {tn:Nat→Heap→Prop} {J:It} {Qd:V→Hp→Prop}
  (hc:X.calm=true) (hos:X.env.scope=osc) (hN:X.N=N) (cs:gK osc N sc x names qS) (he:∀fp s₀ H₀,PE (wA X sc x names fp s₀ H₀) elt te)
  (I2:Inv X pins σ H2 s₂) (T:Turn X.prog X.w X.K (.Name x px) J fp it tn) (st2:tn 0 s₂.heap) (f2:∀b∈fp,gc X pins H2 b)
  (hW:Z3 J qS te σ Qd H2)
  (cont:∀D C H5 s6 m,Inv X pins σ H5 s6→s6.heap.Ns C m→gc X pins H5 C→Qd (.ref D) H5→RR (.ref D) C (.ok .next) s6) :
  wpAny (model X.prog X.w) X.A (newList []) (fun acc s₃=>wpAny (model X.prog X.w) X.A (newFunctionEnv sc X.env.globals (jb X.env sc.names []) [] X.env.qual none .none (some X.env)) (fun cenv s₄=>
   codeAny (model X.prog X.w) X.A (.compStart (.ListComp elt [⟨.Name x px,iter,[],0⟩] sc pos) 0 (.ref it) acc { cenv with scope:=relabel sc X.env }) (RR acc cenv.locals) s₄) E s₃) E s₂:=by
 subst hN
 refine wpAny_newObj_type (wpAny_newFunctionEnv cs.ub (by intro y hy;simp at hy) (fun h₁ hns₁ hsb₁=>?_) cs.kind)
 dsimp only at hns₁ hsb₁ ⊢
 have fp2:∀b∈fp,b < s₂.heap.objs.size:=fun b hb=>by
  obtain⟨o,e,_⟩:=T.obj _ _ st2 b hb
  exact Heap.lt_size e
 have I3:Inv X pins σ (upd H2 s₂.heap.objs.size (.lst [])) { s₂ with heap:=s₂.heap.push { cls:=.type "list",dict:=none,data:=.seq ([]:List Value).toArray } }:=I2.QF (t':=s₂.toks) (its:=[]) .nil (Nat.zero_le _)
 obtain⟨W,⟨m0,w0⟩,turn⟩:=hW s₂.heap.objs.size I2.fresh
 have f3:∀b∈fp,gc X pins (upd H2 s₂.heap.objs.size (.lst [])) b:=fun b hb=>⟨by rw[qB (Nat.ne_of_lt (fp2 b hb))];exact(f2 b hb).1,(f2 b hb).2⟩
 have hD:∀b o,s₂.heap.get? b=some o→(s₂.heap.push { cls:=.type "list",dict:=none,data:=.seq ([]:List Value).toArray }).get? b=some o:=fun b o e=>Heap.get?_push_of_some _ e
 generalize hs3:({ s₂ with heap:=s₂.heap.push { cls:=.type "list",dict:=none,data:=.seq ([]:List Value).toArray } }:Shared)=s₃ at *
 have hs3h:s₃.heap=s₂.heap.push { cls:=.type "list",dict:=none,data:=.seq ([]:List Value).toArray }:=by rw[←hs3]
 rw[←hs3h] at hns₁ hsb₁ hD ⊢
 have Zx:∀b∈fp,b < s₃.heap.objs.size:=fun b hb=>by
  rw[hs3h,Heap.size_push];exact Nat.lt_succ_of_lt (fp2 b hb)
 have k3:∀b o,s₃.heap.get? b=some o→h₁.get? b=some o:=fun b o e=>hsb₁.extBut b o (Nat.ne_of_lt (Heap.lt_size e)) (Heap.get?_push_of_some _ e)
 have ok:=VR hos cs I3 f3 Zx
 have cl:=k7 (env:=X.env) sc.names [] (fun z c e=>by simp at e)
 have hcl:∀y c,(jb X.env sc.names []).lookup y=some c→X.env.cells.lookup y=some c:=fun y c e=>by
  have e1:=cl.1 y c e
  have hm:(y,NameKind.free)∈sc.names:=by
   by_cases q:(y,NameKind.free)∈sc.names
   ·exact q
   ·have:=(cl.2 y).mpr ⟨rfl,q⟩
    rw[this] at e;cases e
  obtain⟨c',hc'⟩:=I3.ok.has y (.inl (by show X.env.scope.names.lookup y=_;rw[hos];exact cs.frees _ hm rfl))
  rw[hc'] at e1 ⊢
  rw[e1];rfl
 have cell4:∀y c,(jb X.env sc.names []).lookup y=some c→∀v,s₃.heap.IsCell c v→h₁.IsCell c v:=fun y c e v ⟨o,ho,hd⟩=>⟨o,k3 _ _ ho,hd⟩
 have lenC:qS.length=names.length:=by have:=congrArg List.length cs.qS;simpa using this.symm
 have I4:∀tk,Inv (wA X sc x names fp s₃ (upd H2 s₂.heap.objs.size (.lst []))) [] (none :: wI σ qS) (upd H2 s₂.heap.objs.size (.lst [])) { s₃ with heap:=h₁,toks:=tk }:=fun tk=>by
  refine⟨ok,rfl,I3.bare,Un.kept k3,⟨_,hns₁,fun i y v e1 e2 e3=>?_⟩,fun y c e=>?_,I3.fresh,fun y c e=>I3.yi y c (hcl y c e),fun p hp=>absurd (show p∈([]:List (Addr × Obj)) from hp) (by simp),I3.jw.kept k3,?_⟩
  ·cases i with
   | zero=>simp at e2
   | succ j=>
    have e1':names[j]?=some y:=by simpa [wA] using e1
    have e2':(wI σ qS)[j]?=some (some v):=by simpa using e2
    unfold wI at e2'
    rw[List.getElem?_map] at e2'
    cases qc:qS[j]? with
    | none=>rw[qc] at e2';cases e2'
    | some i0=>
     rw[qc] at e2'
     have e2'':(σ[i0]?).join=some v:=by simpa using e2'
     have e3':σ[i0]?=some (some v):=by
      cases qs:σ[i0]? with
      | none=>rw[qs] at e2'';cases e2''
      | some o=>rw[qs] at e2'';rw[show o=some v from by simpa using e2'']
     have eN:X.N[i0]?=some y:=by
      have q1:(names.map some)[j]?=(qS.map fun i=>X.N[i]?)[j]?:=by rw[cs.qS]
      rw[List.getElem?_map,List.getElem?_map,e1',qc] at q1
      have q2:some y=X.N[i0]?:=by simpa using q1
      exact q2.symm
     have hfree:=cs.ie y (List.mem_of_getElem? e1')
     have hm:=PySem.mem_of_lookup hfree
     have hcell:X.env.scope.names.lookup y=some .cell:=by rw[hos];exact cs.frees _ hm rfl
     obtain⟨m,hn,hl⟩:=I3.loc
     obtain⟨u,ru,lk⟩:=hl i0 y v eN e3' (.inr (.inl hcell))
     refine⟨u,ru,?_⟩
     rcases lk with ⟨kk,_⟩ | ⟨kk,c,ec,hcl'⟩
     ·have kk':X.env.scope.names.lookup y=some .local:=kk
      rw[hcell] at kk';cases kk'
     ·refine .inr ⟨?_,c,?_,?_⟩
      ·left
       show (relabel sc X.env).names.lookup y=some .cell
       rw[kc,hfree]
       have ef:(X.env.scope.kind == ScopeKind.function)=true:=by rw[I3.ok.kind];rfl
       have ek:(X.env.kindOf y == some NameKind.cell)=true:=by
        show (X.env.scope.names.lookup y == some NameKind.cell)=true
        rw[hcell];rfl
       simp [ef,ek]
      ·show (jb X.env sc.names []).lookup y=some c
       cases q:(jb X.env sc.names []).lookup y with
       | none=>exact absurd hm ((cl.2 y).mp q).2
       | some c'=>
        have:=hcl y c' q
        rw[ec] at this
        exact this.symm
      ·obtain⟨o,ho,hd⟩:=hcl'
       exact⟨o,k3 _ _ ho,hd⟩
  ·obtain⟨v,hv⟩:=I3.cell y c (hcl y c e)
   exact⟨v,cell4 y c e v hv⟩
  ·show (none :: wI σ qS).length=(x :: names).length
   unfold wI
   simp [lenC]
 have st4:tn 0 h₁:=T.keep _ _ _ st2 fun b hb o e=>k3 b o (by rw[hs3h];exact Heap.get?_push_of_some _ e)
 have fpok:∀{H':Hp},(∀b∈fp,H' b=none)→∀b∈fp,gc (wA X sc x names fp s₃ (upd H2 s₂.heap.objs.size (.lst []))) [] H' b:=fun hn b hb=>
  ⟨hn b hb,(ok.VA b hb).1,ok.ib b hb,.inl hb,(ok.VA b hb).2,fun p hp=>absurd (show p∈([]:List (Addr × Obj)) from hp) (by simp)⟩
 have loop:∀s₄:Shared,s₄={ s₃ with heap:=h₁,toks:=s₃.toks + ([]:List (Str × Value)).length }→
   codeAny (model X.prog X.w) X.A (.compLoop (.ListComp elt [⟨.Name x px,iter,[],0⟩] sc pos) 0 (.ref it) (.ref s₂.heap.objs.size) (compEnvC sc (jb X.env sc.names []) s₃.heap.objs.size X.env))
    (RR (.ref s₂.heap.objs.size) s₃.heap.objs.size) s₄:=by
  rintro s₄ rfl
  refine ng (fun n s'=>∃i H',Inv (wA X sc x names fp s₃ (upd H2 s₂.heap.objs.size (.lst []))) [] (none :: wI σ qS) H' s'∧tn i s'.heap∧(∀b∈fp,H' b=none)∧W i n H') ?_ m0
   ⟨0,_,I4 _,st4,fun b hb=>(f3 b hb).1,w0⟩
  rintro n s5 ⟨i,H5,I5,st5,fr5,w5⟩
  rcases turn i n H5 w5 with ⟨stop,q⟩ | ⟨go,step⟩
  ·refine xy (T.done (wA X sc x names fp s₃ (upd H2 s₂.heap.objs.size (.lst []))) rfl rfl rfl hc i [] s5 _ H5 _ I5 (fpok fr5) st5 stop) fun r s6 ⟨hr,I6⟩=>?_
   subst hr
   obtain⟨m,hn,_⟩:=I6.loc
   have J6:Inv X pins σ H5 s6:=I3.tO (ch:=fp) I6.os I6.base I6.jw I6.bare fun b hb=>⟨(f3 b hb).2.2.2.1,(f3 b hb).2.1,(f3 b hb).2.2.2.2.1,(f3 b hb).2.2.2.2.2⟩
   exact cont _ _ H5 s6 m J6 hn (I3.Zk (H':=H5) (Nat.le_refl _) I6.free) q
  ·refine xy (T.item (wA X sc x names fp s₃ (upd H2 s₂.heap.objs.size (.lst []))) rfl rfl rfl hc i [] s5 _ H5 _ I5 (fpok fr5) st5 go) fun r s6 ⟨u,hr,h6⟩=>?_
   subst hr
   refine xy h6 fun _ s6' ⟨y,H6,I6,r6,y6,st6,fr6⟩=>?_
   have I6':=I6.pinned (fpok fr6) (T.obj _ _ st6)
   have own':(relabel sc X.env).names.lookup x=some .local:=lookup_relabel_local cs.own
   refine wpAny_mono (xR (X:=wA X sc x names fp s₃ (upd H2 s₂.heap.objs.size (.lst []))) (i:=0) (x:=x) (pos:=px) cs.nd rfl (.inl own') (.inr own') _ s6' _ H6 y u (fun σ' H'=>σ'=(none :: wI σ qS).set 0 (some y)∧H'=H6) I6' r6 ⟨rfl,rfl⟩)
    (fun _ s7 ⟨σ7,H7,I7,e7,e7'⟩=>?_) fun _ _ z=>False.elim z
   subst e7 e7'
   refine wpAny_mono (he fp s₃ _ _ s7 _ H7 _ I7 (step y H7 y6)) (fun v s8 ⟨vv,H8,I8,r8,ys,hD8,hz8,m',hm',w8⟩=>?_) fun _ _ z=>False.elim z
   refine wpAny_mono (dc (X:=wA X sc x names fp s₃ (upd H2 s₂.heap.objs.size (.lst []))) _ s8 _ H8 (.ref s₂.heap.objs.size) [vv] (.ref s₂.heap.objs.size) [v] (fun _ H'=>H'=upd H8 s₂.heap.objs.size (.lst (ys ++ [vv]))) I8 rfl (.cons r8 .nil)
    ⟨_,ys,vv,rfl,rfl,hD8,hz8,rfl⟩) (fun _ s9 ⟨_,H9,I9,_,e9⟩=>?_) fun _ _ z=>False.elim z
   subst e9
   refine⟨m',hm',i + 1,_,(I9.yM).weak ?_ ?_,T.keep _ _ _ st6 fun b hb o e=>(I9.pin (b,o) (List.mem_append_right _ (List.mem_append_right _ (vN hb e)))).1,fun b hb=>?_,w8⟩
   ·simp
   ·intro j v' ej
    cases j with
    | zero=>simp at ej
    | succ j=>simpa using ej
   ·obtain⟨o,e,d⟩:=T.obj _ _ st6 b hb
    exact(I9.pin (b,o) (List.mem_append_right _ (List.mem_append_right _ (vN hb e)))).2.1
 exact codeAny_compStart_list (loop _ (by rw[←hs3])) (T.self _ 0 _ _ _ st4 (loop _ (by rw[←hs3])))
theorem rY {pins:List (Addr × Obj)} {σ:St} {H:Hp} {s:Shared} {osc:Scope} {N:List Str} {sc:Scope} {x:Str} {names:List Str} {qS:List Nat} (hos:X.env.scope=osc) (cs:gK osc N sc x names qS) (I:Inv X pins σ H s) :
  closureFor sc X.env=pure (jb X.env sc.names []):=
 fq fun y hy hk=>I.ok.has y.1 (.inl (by show X.env.scope.names.lookup y.1=_;rw[hos];exact cs.frees y hy hk))
theorem mR {osc:Scope} {N:List Str} {sc:Scope} {x:Str} {px pos:Pos} {elt iter:Expr} {names:List Str} {qS:List Nat} {wi:TI} {te:TE}
  (hc:X.calm=true) (hos:X.env.scope=osc) (hN:X.N=N) (cs:gK osc N sc x names qS) (hi:PI X (.Name x px) iter wi) (he:∀fp s₀ H₀,PE (wA X sc x names fp s₀ H₀) elt te)
  (hs:∀v,foldedSetIterable iter X.env v=pure v:=by intro _;rfl):PE X (.ListComp elt [⟨.Name x px,iter,[],0⟩] sc pos) (Ve qS wi te):=by
 intro pins s σ H Q I h
 rw[eval_ListComp]
 refine wpAny_comprehension_free (use:=none) rfl hs (rY hos cs I) cs.kind cs.locs (xy (hi pins s σ H _ I h) fun xv s1 h1=>xy h1 fun itv s2 h2=>?_)
 obtain⟨it,fp,tn,J,H2,rfl,I2,T,st2,f2,hW⟩:=h2
 refine nh (Qd:=Q) (RR:=fun acc C=>compPost (model X.prog X.w) X.A X.xe none (EP X pins σ Q) acc C) hc hos hN cs he I2 T st2 f2 hW fun D C H5 s6 m I6 hn fC q=>?_
 refine⟨m,hn,fun h' sb=>?_⟩
 obtain⟨g0,g1,g2,g3,g4,g5⟩:=fC
 exact⟨.ref D,H5,I6.turned (t':=s6.toks) (it:=C) (fun b o hb e=>sb.extBut b o hb e) g0 g1 g3 g4 g5,rfl,q⟩
theorem mL {osc:Scope} {N:List Str} {sc:Scope} {x y:Str} {px py pos spos:Pos} {elt iter:Expr} {names:List Str} {qS:List Nat} {wi:TI} {te:TE} {i:Nat}
  (hc:X.calm=true) (hos:X.env.scope=osc) (hN:X.N=N) (nd:X.N.Nodup) (cs:gK osc N sc x names qS) (hi':X.N[i]?=some y) (hy:X.env.scope.names.lookup y=some .local) (hi:PI X (.Name x px) iter wi)
  (he:∀fp s₀ H₀,PE (wA X sc x names fp s₀ H₀) elt te) (hsw:swapsWith (.ListComp elt [⟨.Name x px,iter,[],0⟩] sc pos) (some (.Name y py)) spos.line X.env=pure true:=by rfl)
  (hs:∀v,foldedSetIterable iter X.env v=pure v:=by intro _;rfl):PS X (.Assign [.Name y py] (.ListComp elt [⟨.Name x px,iter,[],0⟩] sc pos) spos) (WE (Ve qS wi te) (dH i)):=by
 intro pins s σ H D I h
 rw[exec_Assign_Name_used _ _ _ _ hsw]
 refine wpAny_bind (wpAny_standAt (wpAny_bind ?_))
 show wpAny _ X.A (do let _ ←comprehension (.ListComp elt [⟨.Name x px,iter,[],0⟩] sc pos) sc X.env _ (newList []) false (eval iter X.env) (some (assign (.Name y py) X.env))) _ _ s
 refine wpAny_bind (wpAny_mono (wpAny_comprehension_free (use:=some (assign (.Name y py) X.env)) (Q:=fun _ s'=>SP X pins D .next s') rfl hs (rY hos cs I) cs.kind cs.locs
  (xy (hi pins s σ H _ I h) fun xv s1 h1=>xy h1 fun itv s2 h2=>?_)) (fun _ s' hq=>wpAny_pure (wpAny_pure hq)) fun _ _ e=>e)
 obtain⟨it,fp,tn,J,H2,rfl,I2,T,st2,f2,hW⟩:=h2
 refine nh (Qd:=fun x H1=>dH i x σ H1 D.nx) (RR:=fun acc C=>compPost (model X.prog X.w) X.A X.xe (some (assign (.Name y py) X.env)) (fun _ s'=>SP X pins D .next s') acc C) hc hos hN cs he I2 T st2 f2 hW fun D' C H5 s6 m I6 hn fC q=>?_
 show wpAny _ X.A (assign (.Name y py) X.env (.ref D')) _ _ _
 obtain⟨oC,es,ep,eC,dC,rC⟩:=id hn
 obtain⟨g0,g1,g2,g3,g4,g5⟩:=id fC
 have I6p:Inv X (pins ++ [(C,oC)]) σ H5 s6:=I6.sT fun p hp=>(List.mem_append.mp hp).elim (fun z=>I6.pin p (List.mem_append_right _ z)) fun z=>by
  have e:p=(C,oC):=by simpa using z
  subst e
  exact⟨eC,g0,g1,g2,fun v z=>by rw[dC] at z;cases z⟩
 refine wpAny_assign_Name (pP I6p nd hi' (.inl hy) (v:=.ref D') rfl (fun s7 I7=>?_) (.inr hy))
 have e7:=(I7.pin (C,oC) (List.mem_append_right _ (List.mem_append_right _ (by simp)))).1
 refine⟨m,⟨oC,es,ep,e7,dC,rC⟩,fun h' sb=>?_⟩
 exact⟨_,H5,(I7.yM).turned (t':=s7.toks) (it:=C) (fun b o hb e=>sb.extBut b o hb e) g0 g1 g3 g4 g5,q⟩
end
noncomputable def aT (J:It) (H:Hp) (xs:List V):Prop:=∀(i:Nat) (H':Hp),qf H H'→
 (i < xs.length→J.go i H')∧(∀y H3,J.VY i H' y H3→H3=H'∧(i < xs.length→xs[i]?=some y))∧(i=xs.length→J.stop i H')
theorem de {K:PySem.W.Frag} {a:Addr} {xs:List V} {H:Hp} (h:jx K H a xs):aT (Yq K a) H xs:=fun i H' s=>
 ⟨fun hi=>⟨xs,xs[i],s.seq h,by simp [hi]⟩,fun y H3 q=>⟨q.1,fun _=>q.2 xs (s.seq h)⟩,fun e=>⟨xs,s.seq h,Nat.le_of_eq e.symm⟩⟩
theorem fL {lo:Int} {n:Nat} {H:Hp}:aT (KW lo n) H ((List.range n).map fun (i:Nat)=>V.int (lo + (i:Int))):=fun i H' s=>
 ⟨fun hi=>by show i < n;simpa using hi,fun y H3 q=>⟨q.1,fun hi=>by
  have hi':i < n:=by simpa using hi
  rw[q.2,List.getElem?_map,List.getElem?_range hi'];rfl⟩,fun e=>by
  have:i=n:=by simpa using e
  exact Nat.le_of_eq this.symm⟩
theorem Jl {z:Str} {H:Hp}:aT (GF z) H (z.cps.toList.map fun c=>V.str ⟨#[c]⟩):=fun i H' s=>
 ⟨fun hi=>by simpa [GF,Str.length] using hi,fun y H3 q=>⟨q.1,fun hi=>by
  obtain⟨_,c,hc,e⟩:=q
  rw[e,List.getElem?_map]
  have:z.cps.toList[i]?=some c:=by simpa using hc
  rw[this];rfl⟩,fun e=>by
  have:i=z.length:=by simpa [Str.length] using e
  exact this⟩
theorem gY {J:It} {H:Hp} {xs:List V} {qS:List Nat} {te:TE} {σ:St} {Q:VK} (hJ:aT J H xs) (Pr:Nat→V→V→Prop) (hsz:xs.length≤sizeLine)
  (hs:∀(i:Nat) (y:V) (H':Hp) (Q':VK),xs[i]?=some y→qf H H'→(∀v H4,qf H' H4→Pr i y v→Q' v H4)→te (some y :: wI σ qS) H' Q')
  (hd:∀(D:Addr) (H':Hp) (ys:List V),qf H H'→H D=none→H' D=some (.lst ys)→ys.length=xs.length→(∀(i:Nat) (y v:V),xs[i]?=some y→ys[i]?=some v→Pr i y v)→Q (.ref D) H') :
  Z3 J qS te σ Q H:=by
 intro D hD
 refine⟨fun i m H2=>m=xs.length - i∧i≤xs.length∧qf H H2∧∃ys,H2 D=some (.lst ys)∧ys.length=i∧∀(j:Nat) (y v:V),xs[j]?=some y→ys[j]?=some v→Pr j y v,
  ⟨xs.length,by simp,Nat.zero_le _,fun b o e=>by rw[qB (qm e hD)];exact e,[],qr,rfl,fun j y v _ e=>by simp at e⟩,?_⟩
 rintro i m H2 ⟨rfl,hi,s2,ys,hy,hl,hp⟩
 obtain⟨j1,j2,j3⟩:=hJ i H2 s2
 by_cases hlt:i < xs.length
 ·refine .inr ⟨j1 hlt,fun y H3 q=>?_⟩
  obtain⟨e3,ey⟩:=j2 y H3 q
  subst e3
  refine hs i y _ _ (ey hlt) s2 fun v H4 s4 pr=>⟨ys,s4 D _ hy,by omega,xs.length - (i + 1),by omega,rfl,hlt,fun b o e=>?_,ys ++ [v],qr,by simp [hl],fun j y' v' e1 e2=>?_⟩
  ·rw[qB (qm e hD)]
   exact s4 b o (s2 b o e)
  ·by_cases hj:j < ys.length
   ·rw[List.getElem?_append_left hj] at e2
    exact hp j y' v' e1 e2
   ·have hje:j=i:=by
     have:=(List.getElem?_eq_some_iff.mp e2).1
     simp at this;omega
    subst hje
    rw[List.getElem?_append_right (by omega),hl,Nat.sub_self] at e2
    rw[ey hlt] at e1
    cases e1
    have:v=v':=by simpa using e2
    subst this
    exact pr
 ·have e:i=xs.length:=by omega
  subst e
  exact .inl ⟨j3 rfl,hd D H2 ys s2 hD hy hl hp⟩
end L2
namespace L2
open PySem PySem.Spec PyProof.Rows
theorem qf.new {H H':Hp} {l:Addr} {o:HO} (e:qf H H') (hl:H' l=none):qf H (upd H' l o):=fun b u q=>by
 have q':=e b u q
 rw[qB (qm q' hl)]
 exact q'
theorem qf.put {H H':Hp} {l:Addr} {o:HO} (e:qf H H') (hl:H l=none):qf H (upd H' l o):=fun b u q=>by
 rw[qB (qm q hl)]
 exact e b u q
theorem qf.nN {H:Hp} {l:Addr} {o:HO} (hl:H l=none):qf H (upd H l o):=(qf.refl H).new hl
theorem lU:∀(ys:List V),(∀v∈ys,∃b,v=V.bl b)→∃bs:List Bool,ys=bs.map V.bl
 | [],_=>⟨[],rfl⟩
 | v :: r,h=>by
  obtain⟨b,rfl⟩:=h v List.mem_cons_self
  obtain⟨bs,rfl⟩:=lU r fun u hu=>h u (List.mem_cons_of_mem _ hu)
  exact⟨b :: bs,rfl⟩
theorem cS (sep:Str) (l:List Str):(Txt.join sep l).length≤(l.map (·.length)).sum + l.length * sep.length:=by
 have e:Txt.join sep l=Str.join sep l:=beq_iff_eq.mp (join_plain_closes sep l)
 rw[e]
 exact StrLaws.join_length_le sep l
theorem uL (a b:Str):(a ++ b).length=a.length + b.length:=by
 show (a.cps ++ b.cps).size=_
 rw[Array.size_append]
 rfl
noncomputable def V5:List Expr→Bool
 | []=>true
 | .Constant (.str _) _ _ :: r=>V5 r
 | _=>false
noncomputable def Vi:List Expr→List V
 | []=>[]
 | .Constant (.str x) _ _ :: r=>V.str x :: Vi r
 | _=>[]
noncomputable def B4 (es:List Expr):TA:=fun _ H Q=>Q (Vi es) H
theorem p8 {es:List Expr} {p:Pos} {t:Option Expr} {l:Nat} {env:Env}:swapsWith (.List es p) t l env=pure false:=rfl
theorem qp {n:Nat} (h:n≤1000):n≤sizeLine:=Nat.le_of_lt (da h)
end L2
namespace L2
open PySem PySem.Spec PyProof.Rows
section
variable {X:Cx} {CX:u3} {k:Nat} {f:Addr} {fd:FuncData} {ps:List Str} {sp:Sp} {dvs:List V} {ds:List Value} {E:XK} {m:Str} {pos apos:Pos} {e o:Expr} {es:List Expr} {ta:TE} {t:TA}
theorem PS.join {st:Stmt} {t:TS} (h:PS X st t):PS X st (fun D σ H=>∃M:St→Hp→Prop,t { D with nx:=M } σ H∧∀σ' H',M σ' H'→D.nx σ' H'):=by
 intro pins s σ H D I ⟨M,q,hM⟩
 refine xy (h pins s σ H _ I q) fun fl s' r=>?_
 cases fl with
 | next=>obtain⟨σ',H',I',r⟩:=r;exact⟨σ',H',I',hM _ _ r⟩
 | brk=>exact r
 | cont=>exact r
 | ret u=>exact r
theorem PE.cut {e:Expr} {t:TE} (h:PE X e t):PE X e (fun σ H Q=>∃M:VK,t σ H M∧∀v H',M v H'→Q v H'):=by
 intro pins s σ H Q I ⟨M,q,hM⟩
 exact xy (h pins s σ H _ I q) fun u s' ⟨v,H',I',r,z⟩=>⟨v,H',I',r,hM v H' z⟩
noncomputable def BZ (K:PySem.W.Frag) (f:Addr) (m:Str) (sp:Sp) (dvs:List V) (E:XK) (ta:TE) (t:TA):TE:=fun σ H Q=>ta σ H fun x H1=>∃a C dx fs,x=.ref a∧H1 a=some (.ins C dx fs)∧cv K C∧Meth K C m f∧fs.lookup m=none∧
 t σ H1 fun vs H2=>sp (x :: (vs ++ dvs)) H2 Q E
end
noncomputable def asc (x:Str):Prop:=∀c∈x.cps.toList,c < 128
theorem asc.ok {x:Str} (h:asc x):PyData.strOk x=true:=by
 unfold PyData.strOk
 rw[Array.all_eq_true]
 intro i hi
 have:=h x.cps[i] (by simp)
 exact decide_eq_true (by omega)
theorem cps_append (a b:Str):(a ++ b).cps.toList=a.cps.toList ++ b.cps.toList:=by
 show (a.cps ++ b.cps).toList=_
 simp
theorem join_eq (sep:Str) (l:List Str):Txt.join sep l=Str.join sep l:=beq_iff_eq.mp (join_plain_closes sep l)
theorem ma {x:Str} {xs:List Str}:Xr (.str x) (xs.map V.str)=decide (x∈xs):=by
 induction xs with
 | nil=>rfl
 | cons y r ih=>
  unfold Xr at ih ⊢
  rw[List.map_cons,List.any_cons,ih]
  have:Xm (.str y) (.str x)=decide (x=y):=by
   show (y == x)=_
   by_cases h:x=y
   ·subst h;simp
   ·rw[decide_eq_false h];exact beq_eq_false_iff_ne.mpr fun q=>h q.symm
  rw[this]
  by_cases h:x=y<;>by_cases h':x∈r<;>simp [h,h']
end L2
namespace L2
open PySem PySem.Spec PyProof.Rows
noncomputable def Nw (H:Hp) (o:HO) (Q:VK):Prop:=∀p H',qf H H'→H p=none→H' p=some o→Q (.ref p) H'
theorem Nw.el {H:Hp} {o:HO} {Q:VK} (h:Nw H o Q) (p:Addr) (hp:H p=none):Q (.ref p) (upd H p o):=h p _ (qf.nN hp) hp qr
noncomputable def Keeps (l:Addr) (H H':Hp):Prop:=∀b,b≠l→H' b=H b
theorem Keeps.upd {H:Hp} {l:Addr} {o:HO}:Keeps l H (upd H l o):=fun _ h=>qB h
noncomputable def Ch (H:Hp) (l:Addr) (o:HO) (Q:Hp→Prop):Prop:=∀H',Keeps l H H'→H' l=some o→Q H'
theorem Ch.el {H:Hp} {l:Addr} {o:HO} {Q:Hp→Prop} (h:Ch H l o Q):Q (L2.upd H l o):=h _ Keeps.upd qr
theorem Keeps.put {H H1 H2:Hp} {l:Addr} (k:Keeps l H1 H2) (s:qf H H1) (n:H l=none):qf H H2:=fun b o e=>by
 rw[k b (qm e n)]
 exact s b o e
theorem Keeps.look {H1 H2:Hp} {l b:Addr} {o:HO} (k:Keeps l H1 H2) (e:H1 b=some o) (n:b≠l):H2 b=some o:=by rw[k b n];exact e
noncomputable def Fx (H H':Hp):Prop:=(∀b xs,H b=some (.tup xs)→H' b=some (.tup xs))∧∀b C dx fs,H b=some (.ins C dx fs)→H' b=some (.ins C dx fs)
section
variable {X:Cx}
theorem PE.mono {e:Expr} {t t':TE} (h:PE X e t) (m:∀σ H Q,t' σ H Q→t σ H Q):PE X e t':=fun pins s σ H Q I q=>h pins s σ H Q I (m σ H Q q)
theorem kA.mono {f:Value} {r r':List V→Hp→VK→Prop} (h:kA X f r) (m:∀xs H Q,r' xs H Q→r xs H Q):kA X f r':=fun pins s σ H xs us Q I rv q=>h pins s σ H xs us Q I rv (m xs H Q q)
theorem ZT.mono {id:String} {r r':V→List V→Hp→VK→Prop} (h:ZT X id r) (m:∀x xs H Q,r' x xs H Q→r x xs H Q):ZT X id r':=fun pins s σ H x vs v us Q I rx rv q=>h pins s σ H x vs v us Q I rx rv (m x vs H Q q)
theorem bL.mono {f:Value→Value→Sem Value} {r r':R2} (h:bL X f r) (m:∀x y H Q,r' x y H Q→r x y H Q):bL X f r':=fun pins s σ H x y v u Q I rx ry q=>h pins s σ H x y v u Q I rx ry (m x y H Q q)
theorem KY.mono {r r':V→Option Int→Option Int→Hp→VK→Prop} (h:KY X r) (m:∀x l u H Q,r' x l u H Q→r x l u H Q):KY X r':=fun pins s σ H x v vl vu lo hi sl Q I rx hs pl pu q=>h pins s σ H x v vl vu lo hi sl Q I rx hs pl pu (m x lo hi H Q q)
noncomputable def HI (t:TA):TE:=fun σ H Q=>t σ H fun xs H1=>xs.length≤sizeLine∧Nw H1 (.tup xs) Q
noncomputable def HN (t:TA):TE:=fun σ H Q=>t σ H fun xs H1=>xs.length≤sizeLine∧Nw H1 (.lst xs) Q
theorem PA.cut {es:List Expr} {t:TA} (h:PA X es t):PA X es (fun σ H Q=>∃M:List V→Hp→Prop,t σ H M∧∀vs H',M vs H'→Q vs H'):=by
 intro pos pins s σ H Q I ⟨M,q,hM⟩
 exact xy (h pos pins s σ H _ I q) fun u s' ⟨v,H',I',r,z⟩=>⟨v,H',I',r,hM v H' z⟩
theorem yz {es:List Expr} {t:TA} {pos:Pos} {x1} (h:PA X es t):PE X (.Tuple es x1 pos) (HI t):=(WZ h.cut).mono fun _ _ _ q=>⟨_,q,fun _ _ q=>⟨q.1,q.2.el⟩⟩
theorem qO {es:List Expr} {t:TA} {pos:Pos} (h:PA X es t):PE X (.List es pos) (HN t):=(We h.cut).mono fun _ _ _ q=>⟨_,q,fun _ _ q=>⟨q.1,q.2.el⟩⟩
theorem iY:kA X (.type "list") (fun xs H Q=>∃p ys,xs=[.ref p]∧(jx X.K H p ys∨fz X.K H p ys)∧Nw H (.lst ys) Q):=
 lS.mono fun _ _ _ ⟨p,ys,a,b,c⟩=>⟨p,ys,a,b,c.el⟩
theorem XD:KY X (fun x lo hi H Q=>∃a xs,x=.ref a∧jx X.K H a xs∧Nw H (.lst (bE xs lo hi)) Q):=
 Kf.mono fun _ _ _ _ _ ⟨a,xs,e,b,c⟩=>⟨a,xs,e,b,c.el⟩
theorem xU:bL X (binaryOp .Add) (fun x y H Q=>∃l b xs zs,x=.ref l∧y=.ref b∧H l=some (.lst xs)∧H b=some (.lst zs)∧xs.length + zs.length≤sizeLine∧Nw H (.lst (xs ++ zs)) Q):=
 Wr.mono fun _ _ _ _ ⟨l,b,xs,zs,a,c,d,e,f,g⟩=>⟨l,b,xs,zs,a,c,d,e,f,g.el⟩
theorem vO:ZT X "list.append" (fun x vs H Q=>∃l xs y,x=.ref l∧vs=[y]∧H l=some (.lst xs)∧xs.length < sizeLine∧Ch H l (.lst (xs ++ [y])) (Q .non)):=
 ZT.mono dc fun _ _ _ _ ⟨l,xs,y,a,b,c,d,e⟩=>⟨l,xs,y,a,b,c,d,e.el⟩
theorem QO:ZT X "list.pop" (fun x vs H Q=>∃l xs y,x=.ref l∧vs=[]∧H l=some (.lst xs)∧xs[xs.length - 1]?=some y∧Ch H l (.lst xs.dropLast) (Q y)):=
 ZT.mono Wg fun _ _ _ _ ⟨l,xs,y,a,b,c,d,e⟩=>⟨l,xs,y,a,b,c,d,e.el⟩
end
structure kN (P:Program) (w:World) (K:PySem.W.Frag) (mg:Str→Option Value) (base:Heap) (CX:u3) (k:Nat) (C:Addr) (m:Str) (sp:Sp):Prop where
 ex:∃f fd ps,Meth K C m f∧qW P w K mg base CX k f fd ps sp∧Binds K fd ps []
theorem kN.mk' {P:Program} {w:World} {K:PySem.W.Frag} {mg:Str→Option Value} {base:Heap} {CX:u3} {j k:Nat} {C f:Addr} {m:Str} {sp:Sp} {fd:FuncData} {ps:List Str} (h1:Meth K C m f) (h2:qW P w K mg base CX j f fd ps sp) (h3:Binds K fd ps []) (h:j≤k) :
  kN P w K mg base CX k C m sp:=⟨f,fd,ps,h1,h2.mono h,h3⟩
noncomputable def JC (X:Cx) (CX:u3) (k:Nat) (m:Str) (E:XK) (ta:TE) (t:TA):TE:=fun σ H Q=>ta σ H fun x H1=>∃a C dx fs,x=.ref a∧H1 a=some (.ins C dx fs)∧cv X.K C∧fs.lookup m=none∧
 ∃sp,kN X.prog X.w X.K X.mg X.base CX k C m sp∧t σ H1 fun vs H2=>sp (x :: vs) H2 Q E
section
variable {X:Cx} {k:Nat} {m:Str} {pos apos:Pos} {e o:Expr} {es:List Expr} {ta:TE} {t:TA}
theorem gT {pl:Sem Bool} (hr:kW k X.A) (he:PE X o ta) (ha:PA X (e :: es) t)
  (hst:starEach (e :: es) X.env=(false,eval e X.env) :: starEach es X.env:=by rfl) (hpl:(backTo pos (starEach es X.env)).any (·.1)=false:=by rfl)
  (ht:eval (.Call (.Attribute o m apos) (e :: es) [] pos) X.env=(do
   let ov ←eval o X.env
   standAt apos.atName
   let (f,first) ←holding [ov] (getMethod ov m pl)
   callWith pos f first (backTo pos (starEach (e :: es) X.env)) (backToKw pos (keywordEach [] X.env))):=by rfl) :
  PE X (.Call (.Attribute o m apos) (e :: es) [] pos) (JC X jW k m E0 ta t):=by
 intro pins s σ H Q I h
 refine PySem.W.methodCall_KW (pl:=pl) (xy (he pins s σ H _ I h) fun u s1 ⟨x,H1,I1,rx,a,C,dx,fs,ex,ea,c,l,sp,M,q⟩=>?_) ht
 subst ex
 obtain⟨f,fd,ps,hm,F,hb⟩:=M.ex
 obtain rfl:u=Value.ref a:=rx
 refine fG I1 ea c hm l ?_
 refine PySem.W.callWith_K (first:=[.ref a]) (h₀:=X.base) I.ok.mod.ZA hm.kp (xy (ha pos pins s1 σ H1 _ I1 q) fun us s2 ⟨vs,H2,I2,r,q2⟩=>⟨I2.gB,?_⟩) hst hpl
 exact sI (us:=.ref a :: us) (vs:=.ref a :: vs) F hr hb .nil qY I2 (.cons rfl r) (by rw[List.append_nil];exact q2)
theorem yc {pl:Sem Bool} (hr:kW k X.A) (he:PE X o ta)
  (ht:eval (.Call (.Attribute o m apos) [] [] pos) X.env=(do
   let ov ←eval o X.env
   standAt apos.atName
   let (f,first) ←holding [ov] (getMethod ov m pl)
   callWith pos f first (backTo pos (starEach [] X.env)) (backToKw pos (keywordEach [] X.env))):=by rfl) :
  PE X (.Call (.Attribute o m apos) [] [] pos) (JC X jW k m E0 ta W5):=by
 intro pins s σ H Q I h
 refine PySem.W.methodCall_KW (pl:=pl) (xy (he pins s σ H _ I h) fun u s1 ⟨x,H1,I1,rx,a,C,dx,fs,ex,ea,c,l,sp,M,q⟩=>?_) ht
 subst ex
 obtain⟨f,fd,ps,hm,F,hb⟩:=M.ex
 obtain rfl:u=Value.ref a:=rx
 refine fG I1 ea c hm l ?_
 exact PySem.W.callWith_K0 (first:=[.ref a]) I1.gB hm.kp (sI (us:=[.ref a]) (vs:=[.ref a]) F hr hb .nil qY I1 (.cons rfl .nil) q)
end
theorem VM {α:Type} [Inhabited α] {xs:List α} {i:Int} (h0:0≤i) (h1:i < xs.length):rz xs i=some (xs.getD i.toNat default):=by
 have hj:i.toNat < xs.length:=by omega
 have e:=lC (xs:=xs) (j:=i.toNat) (v:=xs[i.toNat]) (by simp [hj])
 rw[Int.toNat_of_nonneg h0] at e
 rw[e,List.getD_eq_getElem?_getD,List.getElem?_eq_getElem hj]
 rfl
theorem eJ {α:Type} {f:α→V} {xs:List α} {i:Int} (d:α) (h0:0≤i) (h1:i < xs.length):rz (xs.map f) i=some (f (xs.getD i.toNat d)):=by
 have hj:i.toNat < (xs.map f).length:=by rw[List.length_map];omega
 have e:=lC (xs:=xs.map f) (j:=i.toNat) (v:=(xs.map f)[i.toNat]) (List.getElem?_eq_getElem hj)
 rw[Int.toNat_of_nonneg h0] at e
 rw[e,List.getElem_map,List.getD_eq_getElem?_getD,List.getElem?_eq_getElem (by omega)]
 rfl
theorem Qz {xs:List Int} {i:Int} (h0:0≤i) (h1:i < xs.length):rz (xs.map V.int) i=some (.int (xs.getD i.toNat 0)):=eJ 0 h0 h1
theorem yl {xs:List Str} {i:Int} (h0:0≤i) (h1:i < xs.length):rz (xs.map V.str) i=some (.str (xs.getD i.toNat "")):=eJ (f:=V.str) ("" : Str) h0 h1
theorem Qj {z:Str} {i:Int} (h0:0≤i) (h1:i < z.length):rz z.cps.toList i=some (z.cps.toList.getD i.toNat 0):=VM h0 (by simpa [Str.length] using h1)
theorem qX {a b:Str} (h:a.cps.toList=b.cps.toList):a=b:=by
 cases a;cases b
 simp only at h
 rw[Array.toList_inj.mp h]
theorem cT (s x y:Str) (r:List Str):Str.join s (x :: y :: r)=x ++ s ++ Str.join s (y :: r):=rfl
theorem join_one (s x:Str):Str.join s [x]=x:=rfl
end L2
namespace L2
open PySem PySem.Spec PyProof.Rows
theorem VC {x y:Str} {n m:Nat} (hx:x.length≤n) (hy:y.length≤m) (h:n + m≤1000):x.length + y.length≤sizeLine:=qp (by omega)
theorem Xv {x y:Str} {n m:Nat} (hx:x.length≤n) (hy:y.length≤m):(x ++ y).length≤n + m:=by rw[uL];omega
theorem QP (x:Str):x.length≤x.length:=Nat.le_refl _
theorem XR {c:Nat}:(⟨#[c]⟩:Str).length≤1:=Nat.le_refl _
theorem Ji {n m:Nat} (h:n≤m) (h':m≤1000):n≤sizeLine:=qp (Nat.le_trans h h')
end L2
namespace L2
open PySem PySem.Spec PyProof.Rows
noncomputable def VH (K:PySem.W.Frag) (H:Hp) (x:V) (f:Str) (v:V):Prop:=∃a C dx fs,x=.ref a∧H a=some (.ins C dx fs)∧cv K C∧qH K C f∧fs.lookup f=some v
noncomputable def HS (K:PySem.W.Frag) (ta:TE) (f:Str):TE:=fun σ H Q=>ta σ H fun x H1=>∃v,VH K H1 x f v∧Q v H1
theorem kG {X:Cx} {K:PySem.W.Frag} (hK:X.K=K) {e:Expr} {ta:TE} {f:Str} {pos:Pos} (he:PE X e ta) (hb:attributeBase e f X.env (eval e X.env)=eval e X.env):PE X (.Attribute e f pos) (HS K ta f):=by
 subst hK
 refine(Wi he.cut hb).mono fun σ H Q q=>⟨_,q,fun x H1 z=>?_⟩
 obtain⟨v,⟨a,C,dx,fs,h1,h2,h3,h4,h5⟩,q⟩:=z
 exact⟨a,C,dx,fs,v,h1,h2,h3,h4,h5,q⟩
theorem mQ (K:PySem.W.Frag) (t:Value):PySem.W.kitOne K t t=some true:=by
 unfold PySem.W.kitOne
 rw[if_pos (by simp)]
end L2
namespace L2
open PySem PySem.Spec PyProof.Rows
structure Fz (K:PySem.W.Frag) (C:Addr):Prop where
 makes:PySem.W.makesIn K C=true
 init:PySem.W.findIn K (.ref C) "__init__" = some (some (.builtin "object.__init__"))
 kp:PySem.W.keepIn K (.ref C)=true
section
variable {X:Cx} {C:Addr} {x:Str} {p pos:Pos}
end
end L2
namespace L2
open PySem PySem.Spec PyProof.Rows
theorem QA {n:Int} (h0:0≤n) (h1:n≤10 ^ 20):(Str.ofString (toString n)).length≤21∧1≤(Str.ofString (toString n)).length∧asc (Str.ofString (toString n)):=by
 obtain⟨m,rfl⟩:=Int.eq_ofNat_of_zero_le h0
 have e:=PySem.W.KIN.signs_num m
 have hl:(Str.ofString (toString ((m:Nat):Int))).length=(Nat.toDigits 10 m).length:=by
  have:=congrArg List.length e
  rw[List.length_map] at this
  rw[←this]
  simp [Str.length]
 refine⟨?_,?_,fun c hc=>?_⟩
 ·rw[hl]
  refine digits10_le (by decide) ?_
  have:(m:Int) < 10 ^ 21:=by omega
  exact_mod_cast this
 ·rw[hl];exact toDigits_len_ge 10 m
 ·rw[e] at hc
  obtain⟨ch,hch,rfl⟩:=List.mem_map.mp hc
  have r:=PyProof.Rows.digit_range (Nat.isDigit_of_mem_toDigits (by decide) (by decide) hch)
  omega
theorem Zd {n:Int} (h0:0≤n) (h1:n≤10 ^ 20):n.natAbs.log2 < 1920:=by
 have:n.natAbs < 2 ^ 67:=by omega
 by_cases h:n.natAbs=0
 ·rw[h];decide
 ·exact Nat.lt_trans ((Nat.log2_lt h).mpr this) (by decide)
theorem nJ (xs ys:List Str):PyData.eqv (.list (xs.map PyData.str)) (.list (ys.map PyData.str))=decide (xs=ys):=by
 simp only[PyData.eqv,dG]
end L2
namespace L2
open PySem PySem.Spec PyProof.Rows
theorem YM {H H':Hp} {b:Addr} {o:HO} (e:H b=some o) (s:qf H H'):H' b=some o:=s b o e
theorem WT {K:PySem.W.Frag} {H H':Hp} {a:Addr} {xs:List V} (h:jx K H a xs) (s:qf H H'):jx K H' a xs:=s.seq h
end L2
namespace L2
open PySem PySem.Spec PyProof.Rows
end L2
namespace L2
open PySem PySem.Spec PyProof.Rows
section
variable {X:Cx} {K:PySem.W.Frag}
theorem cK {es:List Expr} {k:Nat} {t:KG} {n:Nat} {pos:Pos} (hK:X.K=K) (hc:X.calm=true) (h:Yx X es t)
  (hn:(assignEach es X.env).length=n:=by rfl) (hst:(assignEach es X.env).findIdx? (·.1)=none:=by rfl):PG X (.Tuple es k pos) (V3 K n t):=hK▸WJ hc h hn hst
theorem qu (hK:X.K=K):Yj X (WY K):=hK▸Xo
theorem jg (hK:X.K=K):Yj X (WG K):=hK▸V6
theorem j4 (hK:X.K=K):KY X (fun x lo hi H Q=>∃a xs,x=.ref a∧jx K H a xs∧Nw H (.lst (bE xs lo hi)) Q):=hK▸XD
theorem lg (hK:X.K=K):bL X (compareOp .NotIn) (BU K true):=hK▸sG
theorem aZ (hK:X.K=K) (hu:X.A.units + 64 < cLine):bL X (compareOp .Eq) (X0 K false):=hK▸Wl hu
theorem XS (hK:X.K=K) (hu:X.A.units + 64 < cLine):bL X (compareOp .NotEq) (X0 K true):=hK▸Ws hu
theorem jv (hK:X.K=K):kA X (.builtin "len") (fun xs H Q=>∃p ys,xs=[.ref p]∧(jx K H p ys∨fz K H p ys)∧Q (.int ys.length) H):=hK▸lL
theorem pe (hK:X.K=K):kA X (.type "list") (fun xs H Q=>∃p ys,xs=[.ref p]∧(jx K H p ys∨fz K H p ys)∧Nw H (.lst ys) Q):=hK▸iY
theorem mx (hK:X.K=K):kA X (.builtin "isinstance") (fun xs H Q=>∃x c t b,xs=[x,c]∧((∃n,c=.ty n)∨∃a,c=.ref a)∧bq K H x t∧PySem.W.kitOne K t (Qp c)=some b∧Q (.bl b) H):=hK▸tI
theorem yJ (hK:X.K=K):ZT X "str.join" (rJoin K):=hK▸XX
theorem gN {tg l:Expr} {tl:TE} (hK:X.K=K) (hl:PE X l tl):PI X tg l (KI K tl):=hK▸XO hl
end
end L2
namespace L2
open PySem PySem.Spec PyProof.Rows
structure hV (osc:Scope) (N:List Str) (sc:Scope) (xs names:List Str) (qS:List Nat):Prop where
 kind:sc.kind=.function
 ub:∀y∈sc.names,y.2≠.cell
 locs:∀y∈sc.names,y.2=.local→sc.names.lookup y.1=some .local
 frees:∀y∈sc.names,y.2=.free→osc.names.lookup y.1=some .cell
 own:∀x∈xs,sc.names.lookup x=some .local
 qS:names.map some=qS.map fun i=>N[i]?
 ie:∀y∈names,sc.names.lookup y=some .free
 nd:(xs ++ names).Nodup
noncomputable def xC (X:Cx) (sc:Scope) (xs names:List Str) (fp:List Addr) (s₀:Shared) (H₀:Hp):Cx where
 prog:=X.prog
 w:=X.w
 K:=X.K
 mg:=X.mg
 base:=X.base
 A:=X.A
 N:=xs ++ names
 s₀:=s₀
 H₀:=H₀
 env:=compEnvC sc (jb X.env sc.names []) s₀.heap.objs.size X.env
 outer:=X.stack
 stack:=X.stack
 ex:=fp
 fn:=fun _=>false
 calm:=X.calm
 pn:=[]
 xe:=fun _ _=>False
theorem nM {X:Cx} {sc:Scope} {xs names:List Str} {fp:List Addr} {s₀:Shared} {H₀:Hp} {x:Str} (h:sc.names.lookup x=some .local):(xC X sc xs names fp s₀ H₀).env.scope.names.lookup x=some .local:=lookup_relabel_local h
noncomputable def Hy (X:Cx) (ifs:List Expr) (t:TT):Prop:=
 ∀(pins:List (Addr × Obj)) (s:Shared) (σ:St) (H:Hp) (Q:Bool→Hp→Prop),Inv X pins σ H s→t σ H Q→
  wpAny (model X.prog X.w) X.A (forIn ifs true fun c r=>if r=true then do let ok ←isTrue c X.env (eval c X.env);pure (ForInStep.yield ok) else pure (ForInStep.yield r)) (TP X pins σ Q) X.xe s
noncomputable def Kn:TT:=fun _ H Q=>Q true H
theorem aJ {X:Cx}:Hy X [] Kn:=fun _ _ _ H _ I q=>wpAny_tests_nil ⟨H,I,q⟩
noncomputable def tD (J:It) (n:Nat) (qS:List Nat) (g:TG) (tt:TT) (te:TE) (σ:St) (Q:VK) (H1:Hp):Prop:=∀D,H1 D=none→∃W:Nat→Nat→St→Hp→Prop,(∃m,W 0 m (List.replicate n none ++ wI σ qS) (upd H1 D (.lst [])))∧∀i m σ1 H2,W i m σ1 H2→
 (J.stop i H2∧Q (.ref D) H2)∨(J.go i H2∧∀y H3,J.VY i H2 y H3→g y σ1 H3 fun σ2 H4=>tt σ2 H4 fun b H5=>if b=true then te σ2 H5 fun v H6=>∃ys,H6 D=some (.lst ys)∧ys.length < sizeLine∧∃m',m' < m∧W (i + 1) m' σ2 (upd H6 D (.lst (ys ++ [v])))
  else ∃m',m' < m∧W (i + 1) m' σ2 H5)
noncomputable def W2 (n:Nat) (qS:List Nat) (wi:TI) (g:TG) (tt:TT) (te:TE):TE:=fun σ H Q=>wi σ H fun J H1=>tD J n qS g tt te σ Q H1
section
variable {prog:Program} {w:World} {A:Around} {R:Result→Shared→Prop} {s:Shared}
theorem lN {el tg src : Expr} {ifs : List Expr} {scope : Scope} {pos : Pos} {it acc : Value} {env : Env} (I : Nat → Shared → Prop)
    (turn : ∀ n s, I n s → Noted prog w A env R (pyNext it) (fun r s1 => match r with
      | none => R (.ok .next) s1
      | some v => Noted prog w A env R (letOwnedTupleGo tg it v) (fun _ => Noted prog w A env R (assign tg env v) fun _ => Noted prog w A env R (forIn ifs true (testB env)) fun ok s4 =>
        if ok = true then Noted prog w A env R (eval el env) (fun x => Noted prog w A env R (call (.builtin "list.append") [acc, x]) fun _ s6 => ∃ m, m < n ∧ I m s6) s4 else ∃ m, m < n ∧ I m s4) s1) s) (n : Nat) (h : I n s) :
    codeAny (model prog w) A (.compLoop (.ListComp el [⟨tg, src, ifs, 0⟩] scope pos) 0 it acc env) R s := by
  refine codeAny_loop rfl I (fun k s1 hI => (?_ : wpAny _ _ (Sem.onRaise _ _) _ _ _)) n h
  refine wpAny_noted (compTurn_list .. ▸ wpAny_bind (wpAny_standAt (sq2 (turn k s1 hI) fun r s2 hr => ?_)))
  cases r
  · exact wpAny_pure hr
  · exact sq2 hr fun _ _ a => sq2 a fun _ _ b => sq2 b fun ok _ c => by
      cases ok
      · exact wpAny_pure ⟨rfl, c⟩
      · exact sq2 (sq2 c fun _ _ d => sq2 d fun _ _ e => wpAny_pure e) fun _ _ e => wpAny_pure ⟨rfl, e⟩
end
section
variable {X:Cx}
theorem Xy {pins:List (Addr × Obj)} {σ:St} {H:Hp} {s:Shared} {osc:Scope} {N:List Str} {sc:Scope} {xs names:List Str} {qS:List Nat} {fp:List Addr}
  (hos:X.env.scope=osc) (cs:hV osc N sc xs names qS) (I:Inv X pins σ H s) (hf:∀b∈fp,gc X pins H b) (hlt:∀b∈fp,b < s.heap.objs.size):(xC X sc xs names fp s H).Ok:=by
 subst hos
 have cl:=k7 (env:=X.env) sc.names [] (fun z c e=>by simp at e)
 have hcl:∀y c,(jb X.env sc.names []).lookup y=some c→X.env.cells.lookup y=some c:=fun y c e=>by
  have e1:=cl.1 y c e
  have hm:(y,NameKind.free)∈sc.names:=by
   by_cases q:(y,NameKind.free)∈sc.names
   ·exact q
   ·have:=(cl.2 y).mpr ⟨rfl,q⟩
    rw[this] at e;cases e
  obtain⟨c',hc'⟩:=I.ok.has y (.inl (cs.frees _ hm rfl))
  rw[hc'] at e1 ⊢
  rw[e1];rfl
 refine⟨I.ok.mod,?_,I.ok.glob,I.ok.blt,Nat.le_refl _,fun y z c h1 h2=>I.ok.inj y z c (hcl y c h1) (hcl z c h2),fun y hy=>?_,fun y c h=>?_,I.ok.hd,I.ok.frames,.inl rfl,fun b hb=>⟨?_,fun y c h=>?_⟩,
  I.bs,Nat.le_trans I.ok.aI I.sz,fun b o e hb=>?_,fun b hb z=>?_,I.stack,I.p5⟩
 ·exact cs.kind
 ·have hy':(relabel sc X.env).names.lookup y=some .cell∨(relabel sc X.env).names.lookup y=some .free:=hy
  have key:sc.names.lookup y=some .free:=by
   rw[kc] at hy'
   cases q:sc.names.lookup y with
   | none=>rw[q] at hy';simp at hy'
   | some k=>
    rw[q] at hy'
    have hm:=PySem.mem_of_lookup q
    have hnc:=cs.ub _ hm
    by_cases hk:k=.free
    ·rw[hk]
    ·have e:(if (k == NameKind.free && X.env.scope.kind == .function && X.env.kindOf y == some .cell)=true then NameKind.cell else k)=k:=if_neg (by simp [hk])
     rw[Option.map_some,e] at hy'
     rcases hy' with z | z
     ·exact absurd (Option.some.inj z) hnc
     ·exact absurd (Option.some.inj z) hk
  have hm:=PySem.mem_of_lookup key
  cases q:(jb X.env sc.names []).lookup y with
  | some c=>exact⟨c,q⟩
  | none=>exact absurd hm ((cl.2 y).mp q).2
 ·exact absurd (show false=true from h) (by simp)
 ·exact Nat.ne_of_lt (hlt b hb)
 ·exact(hf b hb).2.2.2.2.1 y c (hcl y c h)
 ·rcases(hf b hb).2.2.2.1 with z | z
  ·exact I.ok.iH b o e z
  ·exact absurd (Nat.lt_of_lt_of_le (Heap.lt_size e) (Nat.le_trans I.ok.aI z)) (Nat.lt_irrefl _)
 ·rcases List.mem_cons.mp (I.uR b z) with q | q
  ·exact(hf b hb).2.1 q
  ·exact(hf b hb).2.2.1 q
theorem a9 {pins:List (Addr × Obj)} {σ:St} {s₂:Shared} {osc:Scope} {N:List Str} {sc:Scope} {pos:Pos} {elt iter tg:Expr} {ifs:List Expr} {xs names:List Str} {qS:List Nat} {g:TG} {tt:TT} {te:TE} {E:Value→Shared→Prop}
  {RR:Value→Addr→Result→Shared→Prop} {H2:Hp} {it:Addr} {fp:List Addr} {tn:Nat→Heap→Prop} {J:It} {Qd:V→Hp→Prop}
  (hc:X.calm=true) (hos:X.env.scope=osc) (hN:X.N=N) (cs:hV osc N sc xs names qS) (hg:∀fp s₀ H₀,PG (xC X sc xs names fp s₀ H₀) tg g) (ht:∀fp s₀ H₀,Hy (xC X sc xs names fp s₀ H₀) ifs tt) (he:∀fp s₀ H₀,PE (xC X sc xs names fp s₀ H₀) elt te)
  (I2:Inv X pins σ H2 s₂) (T:Turn X.prog X.w X.K tg J fp it tn) (st2:tn 0 s₂.heap) (f2:∀b∈fp,gc X pins H2 b)
  (hW:tD J xs.length qS g tt te σ Qd H2)
  (cont:∀D C H5 s6 m,Inv X pins σ H5 s6→s6.heap.Ns C m→gc X pins H5 C→Qd (.ref D) H5→RR (.ref D) C (.ok .next) s6) :
  wpAny (model X.prog X.w) X.A (newList []) (fun acc s₃=>wpAny (model X.prog X.w) X.A (newFunctionEnv sc X.env.globals (jb X.env sc.names []) [] X.env.qual none .none (some X.env)) (fun cenv s₄=>
   codeAny (model X.prog X.w) X.A (.compStart (.ListComp elt [⟨tg,iter,ifs,0⟩] sc pos) 0 (.ref it) acc { cenv with scope:=relabel sc X.env }) (RR acc cenv.locals) s₄) E s₃) E s₂:=by
 subst hN
 refine wpAny_newObj_type (wpAny_newFunctionEnv cs.ub (by intro y hy;simp at hy) (fun h₁ hns₁ hsb₁=>?_) cs.kind)
 dsimp only at hns₁ hsb₁ ⊢
 have fp2:∀b∈fp,b < s₂.heap.objs.size:=fun b hb=>by
  obtain⟨o,e,_⟩:=T.obj _ _ st2 b hb
  exact Heap.lt_size e
 have I3:Inv X pins σ (upd H2 s₂.heap.objs.size (.lst [])) { s₂ with heap:=s₂.heap.push { cls:=.type "list",dict:=none,data:=.seq ([]:List Value).toArray } }:=I2.QF (t':=s₂.toks) (its:=[]) .nil (Nat.zero_le _)
 obtain⟨W,⟨m0,w0⟩,turn⟩:=hW s₂.heap.objs.size I2.fresh
 have f3:∀b∈fp,gc X pins (upd H2 s₂.heap.objs.size (.lst [])) b:=fun b hb=>⟨by rw[qB (Nat.ne_of_lt (fp2 b hb))];exact(f2 b hb).1,(f2 b hb).2⟩
 have hD:∀b o,s₂.heap.get? b=some o→(s₂.heap.push { cls:=.type "list",dict:=none,data:=.seq ([]:List Value).toArray }).get? b=some o:=fun b o e=>Heap.get?_push_of_some _ e
 generalize hs3:({ s₂ with heap:=s₂.heap.push { cls:=.type "list",dict:=none,data:=.seq ([]:List Value).toArray } }:Shared)=s₃ at *
 have hs3h:s₃.heap=s₂.heap.push { cls:=.type "list",dict:=none,data:=.seq ([]:List Value).toArray }:=by rw[←hs3]
 rw[←hs3h] at hns₁ hsb₁ hD ⊢
 have Zx:∀b∈fp,b < s₃.heap.objs.size:=fun b hb=>by
  rw[hs3h,Heap.size_push];exact Nat.lt_succ_of_lt (fp2 b hb)
 have k3:∀b o,s₃.heap.get? b=some o→h₁.get? b=some o:=fun b o e=>hsb₁.extBut b o (Nat.ne_of_lt (Heap.lt_size e)) (Heap.get?_push_of_some _ e)
 have ok:=Xy hos cs I3 f3 Zx
 have cl:=k7 (env:=X.env) sc.names [] (fun z c e=>by simp at e)
 have hcl:∀y c,(jb X.env sc.names []).lookup y=some c→X.env.cells.lookup y=some c:=fun y c e=>by
  have e1:=cl.1 y c e
  have hm:(y,NameKind.free)∈sc.names:=by
   by_cases q:(y,NameKind.free)∈sc.names
   ·exact q
   ·have:=(cl.2 y).mpr ⟨rfl,q⟩
    rw[this] at e;cases e
  obtain⟨c',hc'⟩:=I3.ok.has y (.inl (by show X.env.scope.names.lookup y=_;rw[hos];exact cs.frees _ hm rfl))
  rw[hc'] at e1 ⊢
  rw[e1];rfl
 have cell4:∀y c,(jb X.env sc.names []).lookup y=some c→∀v,s₃.heap.IsCell c v→h₁.IsCell c v:=fun y c e v ⟨o,ho,hd⟩=>⟨o,k3 _ _ ho,hd⟩
 have lenC:qS.length=names.length:=by have:=congrArg List.length cs.qS;simpa using this.symm
 have I4:∀tk,Inv (xC X sc xs names fp s₃ (upd H2 s₂.heap.objs.size (.lst []))) [] (List.replicate xs.length none ++ wI σ qS) (upd H2 s₂.heap.objs.size (.lst [])) { s₃ with heap:=h₁,toks:=tk }:=fun tk=>by
  refine⟨ok,rfl,I3.bare,Un.kept k3,⟨_,hns₁,fun i y v e1 e2 e3=>?_⟩,fun y c e=>?_,I3.fresh,fun y c e=>I3.yi y c (hcl y c e),fun p hp=>absurd (show p∈([]:List (Addr × Obj)) from hp) (by simp),I3.jw.kept k3,?_⟩
  ·have hle:xs.length≤i:=by
    by_cases q:i < xs.length
    ·rw[List.getElem?_append_left (by rw[List.length_replicate];exact q),List.getElem?_replicate,if_pos q] at e2
     cases e2
    ·omega
   obtain⟨j,rfl⟩:∃j,i=xs.length + j:=⟨i - xs.length,by omega⟩
   ·have e1':names[j]?=some y:=by
     have e1z:(xs ++ names)[xs.length + j]?=some y:=e1
     rw[List.getElem?_append_right (Nat.le_add_right _ _),Nat.add_sub_cancel_left] at e1z
     exact e1z
    have e2':(wI σ qS)[j]?=some (some v):=by
     rw[List.getElem?_append_right (by rw[List.length_replicate];exact Nat.le_add_right _ _),List.length_replicate,Nat.add_sub_cancel_left] at e2
     exact e2
    unfold wI at e2'
    rw[List.getElem?_map] at e2'
    cases qc:qS[j]? with
    | none=>rw[qc] at e2';cases e2'
    | some i0=>
     rw[qc] at e2'
     have e2'':(σ[i0]?).join=some v:=by simpa using e2'
     have e3':σ[i0]?=some (some v):=by
      cases qs:σ[i0]? with
      | none=>rw[qs] at e2'';cases e2''
      | some o=>rw[qs] at e2'';rw[show o=some v from by simpa using e2'']
     have eN:X.N[i0]?=some y:=by
      have q1:(names.map some)[j]?=(qS.map fun i=>X.N[i]?)[j]?:=by rw[cs.qS]
      rw[List.getElem?_map,List.getElem?_map,e1',qc] at q1
      have q2:some y=X.N[i0]?:=by simpa using q1
      exact q2.symm
     have hfree:=cs.ie y (List.mem_of_getElem? e1')
     have hm:=PySem.mem_of_lookup hfree
     have hcell:X.env.scope.names.lookup y=some .cell:=by rw[hos];exact cs.frees _ hm rfl
     obtain⟨m,hn,hl⟩:=I3.loc
     obtain⟨u,ru,lk⟩:=hl i0 y v eN e3' (.inr (.inl hcell))
     refine⟨u,ru,?_⟩
     rcases lk with ⟨kk,_⟩ | ⟨kk,c,ec,hcl'⟩
     ·have kk':X.env.scope.names.lookup y=some .local:=kk
      rw[hcell] at kk';cases kk'
     ·refine .inr ⟨?_,c,?_,?_⟩
      ·left
       show (relabel sc X.env).names.lookup y=some .cell
       rw[kc,hfree]
       have ef:(X.env.scope.kind == ScopeKind.function)=true:=by rw[I3.ok.kind];rfl
       have ek:(X.env.kindOf y == some NameKind.cell)=true:=by
        show (X.env.scope.names.lookup y == some NameKind.cell)=true
        rw[hcell];rfl
       simp [ef,ek]
      ·show (jb X.env sc.names []).lookup y=some c
       cases q:(jb X.env sc.names []).lookup y with
       | none=>exact absurd hm ((cl.2 y).mp q).2
       | some c'=>
        have:=hcl y c' q
        rw[ec] at this
        exact this.symm
      ·obtain⟨o,ho,hd⟩:=hcl'
       exact⟨o,k3 _ _ ho,hd⟩
  ·obtain⟨v,hv⟩:=I3.cell y c (hcl y c e)
   exact⟨v,cell4 y c e v hv⟩
  ·show (List.replicate xs.length none ++ wI σ qS).length=(xs ++ names).length
   unfold wI
   simp [lenC]
 have st4:tn 0 h₁:=T.keep _ _ _ st2 fun b hb o e=>k3 b o (by rw[hs3h];exact Heap.get?_push_of_some _ e)
 have fpok:∀{H':Hp},(∀b∈fp,H' b=none)→∀b∈fp,gc (xC X sc xs names fp s₃ (upd H2 s₂.heap.objs.size (.lst []))) [] H' b:=fun hn b hb=>
  ⟨hn b hb,(ok.VA b hb).1,ok.ib b hb,.inl hb,(ok.VA b hb).2,fun p hp=>absurd (show p∈([]:List (Addr × Obj)) from hp) (by simp)⟩
 have loop:∀s₄:Shared,s₄={ s₃ with heap:=h₁,toks:=s₃.toks + ([]:List (Str × Value)).length }→
   codeAny (model X.prog X.w) X.A (.compLoop (.ListComp elt [⟨tg,iter,ifs,0⟩] sc pos) 0 (.ref it) (.ref s₂.heap.objs.size) (compEnvC sc (jb X.env sc.names []) s₃.heap.objs.size X.env))
    (RR (.ref s₂.heap.objs.size) s₃.heap.objs.size) s₄:=by
  rintro s₄ rfl
  refine lN (fun n s'=>∃i σ' H',Inv (xC X sc xs names fp s₃ (upd H2 s₂.heap.objs.size (.lst []))) [] σ' H' s'∧tn i s'.heap∧(∀b∈fp,H' b=none)∧W i n σ' H') ?_ m0
   ⟨0,_,_,I4 _,st4,fun b hb=>(f3 b hb).1,w0⟩
  rintro n s5 ⟨i,σ5,H5,I5,st5,fr5,w5⟩
  rcases turn i n σ5 H5 w5 with ⟨stop,q⟩ | ⟨go,step⟩
  ·refine xy (T.done (xC X sc xs names fp s₃ (upd H2 s₂.heap.objs.size (.lst []))) rfl rfl rfl hc i [] s5 _ H5 _ I5 (fpok fr5) st5 stop) fun r s6 ⟨hr,I6⟩=>?_
   subst hr
   obtain⟨m,hn,_⟩:=I6.loc
   have J6:Inv X pins σ H5 s6:=I3.tO (ch:=fp) I6.os I6.base I6.jw I6.bare fun b hb=>⟨(f3 b hb).2.2.2.1,(f3 b hb).2.1,(f3 b hb).2.2.2.2.1,(f3 b hb).2.2.2.2.2⟩
   exact cont _ _ H5 s6 m J6 hn (I3.Zk (H':=H5) (Nat.le_refl _) I6.free) q
  ·refine xy (T.item (xC X sc xs names fp s₃ (upd H2 s₂.heap.objs.size (.lst []))) rfl rfl rfl hc i [] s5 _ H5 _ I5 (fpok fr5) st5 go) fun r s6 ⟨u,hr,h6⟩=>?_
   subst hr
   refine xy h6 fun _ s6' ⟨y,H6,I6,r6,y6,st6,fr6⟩=>?_
   have I6':=I6.pinned (fpok fr6) (T.obj _ _ st6)
   have back:∀{σ':St} {H':Hp} {s':Shared},Inv (xC X sc xs names fp s₃ (upd H2 s₂.heap.objs.size (.lst []))) ([] ++ uJ fp s6'.heap) σ' H' s'→tn (i + 1) s'.heap∧∀b∈fp,H' b=none:=fun I9=>
    ⟨T.keep _ _ _ st6 fun b hb o e=>(I9.pin (b,o) (List.mem_append_right _ (List.mem_append_right _ (vN hb e)))).1,fun b hb=>by
     obtain⟨o,e,d⟩:=T.obj _ _ st6 b hb
     exact(I9.pin (b,o) (List.mem_append_right _ (List.mem_append_right _ (vN hb e)))).2.1⟩
   refine wpAny_mono (hg fp s₃ _ _ s6' _ H6 y u _ I6' r6 (step y H6 y6)) (fun _ s7 ⟨σ7,H7,I7,q7⟩=>?_) fun _ _ z=>False.elim z
   refine wpAny_mono (ht fp s₃ _ _ s7 _ H7 _ I7 q7) (fun b s8 ⟨H8,I8,q8⟩=>?_) fun _ _ z=>False.elim z
   cases b with
   | false=>
    rw[if_neg Bool.false_ne_true] at q8 ⊢
    obtain⟨m',hm',w8⟩:=q8
    exact⟨m',hm',i + 1,σ7,H8,I8.yM,(back I8).1,(back I8).2,w8⟩
   | true=>
    rw[if_pos rfl] at q8 ⊢
    refine wpAny_mono (he fp s₃ _ _ s8 _ H8 _ I8 q8) (fun v s9 ⟨vv,H9,I9,r9,ys,hD9,hz9,m',hm',w9⟩=>?_) fun _ _ z=>False.elim z
    refine wpAny_mono (dc (X:=xC X sc xs names fp s₃ (upd H2 s₂.heap.objs.size (.lst []))) _ s9 _ H9 (.ref s₂.heap.objs.size) [vv] (.ref s₂.heap.objs.size) [v] (fun _ H'=>H'=upd H9 s₂.heap.objs.size (.lst (ys ++ [vv]))) I9 rfl (.cons r9 .nil)
     ⟨_,ys,vv,rfl,rfl,hD9,hz9,rfl⟩) (fun _ s10 ⟨_,H10,I10,_,e10⟩=>?_) fun _ _ z=>False.elim z
    subst e10
    exact⟨m',hm',i + 1,σ7,_,I10.yM,(back I10).1,(back I10).2,w9⟩
 exact codeAny_compStart_list (loop _ (by rw[←hs3])) (T.self _ 0 _ _ _ st4 (loop _ (by rw[←hs3])))
theorem ik {pins:List (Addr × Obj)} {σ:St} {H:Hp} {s:Shared} {osc:Scope} {N:List Str} {sc:Scope} {xs names:List Str} {qS:List Nat} (hos:X.env.scope=osc) (cs:hV osc N sc xs names qS) (I:Inv X pins σ H s) :
  closureFor sc X.env=pure (jb X.env sc.names []):=
 fq fun y hy hk=>I.ok.has y.1 (.inl (by show X.env.scope.names.lookup y.1=_;rw[hos];exact cs.frees y hy hk))
theorem lQ {osc:Scope} {N:List Str} {sc:Scope} {pos:Pos} {elt iter tg:Expr} {ifs:List Expr} {g:TG} {tt:TT} {xs names:List Str} {qS:List Nat} {wi:TI} {te:TE}
  (hc:X.calm=true) (hos:X.env.scope=osc) (hN:X.N=N) (cs:hV osc N sc xs names qS) (hi:PI X tg iter wi) (hg:∀fp s₀ H₀,PG (xC X sc xs names fp s₀ H₀) tg g) (ht:∀fp s₀ H₀,Hy (xC X sc xs names fp s₀ H₀) ifs tt) (he:∀fp s₀ H₀,PE (xC X sc xs names fp s₀ H₀) elt te)
  (hs:∀v,foldedSetIterable iter X.env v=pure v:=by intro _;rfl):PE X (.ListComp elt [⟨tg,iter,ifs,0⟩] sc pos) (W2 xs.length qS wi g tt te):=by
 intro pins s σ H Q I h
 rw[eval_ListComp]
 refine wpAny_comprehension_free (use:=none) rfl hs (ik hos cs I) cs.kind cs.locs (xy (hi pins s σ H _ I h) fun xv s1 h1=>xy h1 fun itv s2 h2=>?_)
 obtain⟨it,fp,tn,J,H2,rfl,I2,T,st2,f2,hW⟩:=h2
 refine a9 (Qd:=Q) (RR:=fun acc C=>compPost (model X.prog X.w) X.A X.xe none (EP X pins σ Q) acc C) hc hos hN cs hg ht he I2 T st2 f2 hW fun D C H5 s6 m I6 hn fC q=>?_
 refine⟨m,hn,fun h' sb=>?_⟩
 obtain⟨g0,g1,g2,g3,g4,g5⟩:=fC
 exact⟨.ref D,H5,I6.turned (t':=s6.toks) (it:=C) (fun b o hb e=>sb.extBut b o hb e) g0 g1 g3 g4 g5,rfl,q⟩
end
theorem Qf {J:It} {H:Hp} {xs:List V} {n:Nat} {qS:List Nat} {g:TG} {tt:TT} {te:TE} {σ:St} {Q:VK} (hJ:aT J H xs) (tv:V→List (Option V)) (hn:∀y,(tv y).length=n) (p:V→Bool) (Pr:V→V→Prop) (hsz:xs.length≤sizeLine)
  (hg:∀(i:Nat) (y:V) (ts:List (Option V)) (H':Hp) (K':St→Hp→Prop),xs[i]?=some y→ts.length=n→qf H H'→K' (tv y ++ wI σ qS) H'→g y (ts ++ wI σ qS) H' K')
  (ht:∀(i:Nat) (y:V) (H':Hp) (Q':Bool→Hp→Prop),xs[i]?=some y→qf H H'→(∀H4,qf H' H4→Q' (p y) H4)→tt (tv y ++ wI σ qS) H' Q')
  (he:∀(i:Nat) (y:V) (H':Hp) (Q':VK),xs[i]?=some y→p y=true→qf H H'→(∀v H4,qf H' H4→Pr y v→Q' v H4)→te (tv y ++ wI σ qS) H' Q')
  (hd:∀(D:Addr) (H':Hp) (ys:List V),qf H H'→H D=none→H' D=some (.lst ys)→Paired Pr (xs.filter p) ys→Q (.ref D) H') :
  tD J n qS g tt te σ Q H:=by
 intro D hD
 refine⟨fun i m σ1 H2=>m=xs.length - i∧i≤xs.length∧(∃ts:List (Option V),ts.length=n∧σ1=ts ++ wI σ qS)∧qf H H2∧∃ys,H2 D=some (.lst ys)∧Paired Pr ((xs.take i).filter p) ys,
  ⟨xs.length,by simp,Nat.zero_le _,⟨_,List.length_replicate,rfl⟩,qf.nN hD,[],qr,by simpa using Paired.nil⟩,?_⟩
 rintro i m σ1 H2 ⟨rfl,hi,⟨ts,htl,rfl⟩,s2,ys,hy,hp⟩
 obtain⟨j1,j2,j3⟩:=hJ i H2 s2
 by_cases hlt:i < xs.length
 ·refine .inr ⟨j1 hlt,fun y H3 q=>?_⟩
  obtain⟨e3,ey⟩:=j2 y H3 q
  subst e3
  have hyi:=ey hlt
  have htake:xs.take (i + 1)=xs.take i ++ [y]:=by
   rw[List.take_add_one,hyi];rfl
  have hlen:ys.length≤i:=by
   rw[←hp.length]
   exact Nat.le_trans (List.length_filter_le _ _) (by rw[List.length_take];omega)
  refine hg i y ts _ _ hyi htl s2 ?_
  refine ht i y _ _ hyi s2 fun H5 s5=>?_
  cases hpy:p y with
  | false=>
   rw[if_neg Bool.false_ne_true]
   refine⟨xs.length - (i + 1),by omega,rfl,hlt,⟨tv y,hn y,rfl⟩,s2.trans s5,ys,s5 _ _ hy,?_⟩
   rw[htake,List.filter_append,show [y].filter p=[] by simp [hpy],List.append_nil]
   exact hp
  | true=>
   rw[if_pos rfl]
   refine he i y _ _ hyi hpy (s2.trans s5) fun v H6 s6 pr=>⟨ys,s6 _ _ (s5 _ _ hy),by omega,xs.length - (i + 1),by omega,rfl,hlt,⟨tv y,hn y,rfl⟩,((s2.trans s5).trans s6).put hD,ys ++ [v],qr,?_⟩
   rw[htake,List.filter_append,show [y].filter p=[y] by simp [hpy]]
   exact hp.snoc pr
 ·have e:i=xs.length:=by omega
  subst e
  refine .inl ⟨j3 rfl,hd D H2 ys s2 hD hy ?_⟩
  rw[List.take_length] at hp
  exact hp
theorem a8 {J:It} {H:Hp} {xs:List V} {n:Nat} {qS:List Nat} {g:TG} {te:TE} {σ:St} {Q:VK} (hJ:aT J H xs) (tv:V→List (Option V)) (hn:∀y,(tv y).length=n) (Pr:V→V→Prop) (hsz:xs.length≤sizeLine)
  (hg:∀(i:Nat) (y:V) (ts:List (Option V)) (H':Hp) (K':St→Hp→Prop),xs[i]?=some y→ts.length=n→qf H H'→K' (tv y ++ wI σ qS) H'→g y (ts ++ wI σ qS) H' K')
  (he:∀(i:Nat) (y:V) (H':Hp) (Q':VK),xs[i]?=some y→qf H H'→(∀v H4,qf H' H4→Pr y v→Q' v H4)→te (tv y ++ wI σ qS) H' Q')
  (hd:∀(D:Addr) (H':Hp) (ys:List V),qf H H'→H D=none→H' D=some (.lst ys)→Paired Pr xs ys→Q (.ref D) H') :
  tD J n qS g Kn te σ Q H:=
 Qf hJ tv hn (fun _=>true) Pr hsz hg (fun i y H' Q' _ s' k=>k H' (qf.refl _)) (fun i y H' Q' hy _ s' k=>he i y H' Q' hy s' k) (fun D H' ys s' hD e q=>hd D H' ys s' hD e (by rw[List.filter_eq_self.mpr (fun _ _=>rfl)] at q;exact q))
end L2
namespace L2
open PySem PySem.Spec PyProof.Rows
section
variable {X:Cx} {pins:List (Addr × Obj)} {σ:St} {H:Hp} {s:Shared} {h':Heap}
theorem Inv.Pn {ch:List Addr} {a:Addr} {o:HO} {t':Nat} (I:Inv X pins σ H s) (hf:∀b∈ch,gc X pins H b) (k:∀b u,b∉ch→s.heap.get? b=some u→h'.get? b=some u)
  (hp:s.heap.objs.size≤a) (new:xx X.prog X.w (upd H a o) h' a o):Inv X pins σ (upd H a o) { s with heap:=h',toks:=t' }:=by
 have hn:=I.jw.fresh hp
 have nit:∀b u,H b=some u→b∉ch:=fun b u e z=>by rw[(hf b z).1] at e;cases e
 have ne:∀b u,s.heap.get? b=some u→b≠a:=fun b u e z=>absurd (Nat.lt_of_lt_of_le (Heap.lt_size (z▸e)) hp) (Nat.lt_irrefl _)
 refine I.step (g':=s.gens) (d':=s.drawn) (ch:=ch) (fun b hb=>?_) (fun b o _ _ hc e _=>k b o hc e) (fun b o _ _ hc e _=>⟨o.slots,k b o hc e⟩) (fun b o hc e n=>?_) (fun b o hc e=>⟨o,k b o hc e⟩) (fun b xs e=>?_) (fun b o u e=>?_) (fun b ps e=>⟨#[],?_⟩) (fun m hm=>?_) (fun b u e=>?_) I.bare
 ·obtain⟨_,f1,_,f3,f4,f5⟩:=hf b hb
  exact⟨f3,f1,f4,f5⟩
 ·rw[qB (ne b o e)];exact n
 ·rw[qB (qm e hn)];exact e
 ·rw[qB (qm e hn)];exact e
 ·rw[qB (qm e hn),e];simp
 ·obtain⟨o,es,ep,ho,r⟩:=hm
  exact⟨o,es,ep,k _ o (fun z=>(hf _ z).2.1 rfl) ho,r⟩
 ·by_cases hb:b=a
  ·subst hb;rw[qr] at e;cases e;exact new
  ·rw[qB hb] at e
   refine(I.jw b u e).tG (fun c v hc q=>k c v ?_ q) (fun c q=>by rw[qB (qm q hn)];exact q) fun c xs q=>by rw[qB (qm q hn)];exact q
   rcases hc with z | z
   ·rw[z];exact nit b u e
   ·exact nit c _ z
theorem Inv.HB {ch:List Addr} {t':Nat} (I:Inv X pins σ H s) (hf:∀b∈ch,gc X pins H b) (k:∀b u,b∉ch→s.heap.get? b=some u→h'.get? b=some u):Inv X pins σ H { s with heap:=h',toks:=t' }:=by
 have nit:∀b u,H b=some u→b∉ch:=fun b u e z=>by rw[(hf b z).1] at e;cases e
 refine I.step (g':=s.gens) (d':=s.drawn) (ch:=ch) (fun b hb=>?_) (fun b o _ _ hc e _=>k b o hc e) (fun b o _ _ hc e _=>⟨o.slots,k b o hc e⟩) (fun b o hc e n=>n) (fun b o hc e=>⟨o,k b o hc e⟩) (fun b xs e=>e) (fun b o u e=>e) (fun b ps e=>⟨#[],by rw[e];simp⟩) (fun m hm=>?_) (fun b u e=>?_) I.bare
 ·obtain⟨_,f1,_,f3,f4,f5⟩:=hf b hb
  exact⟨f3,f1,f4,f5⟩
 ·obtain⟨o,es,ep,ho,r⟩:=hm
  exact⟨o,es,ep,k _ o (fun z=>(hf _ z).2.1 rfl) ho,r⟩
 ·refine(I.jw b u e).tG (fun c v hc q=>k c v ?_ q) (fun c q=>q) fun c xs q=>q
  rcases hc with z | z
  ·rw[z];exact nit b u e
  ·exact nit c _ z
end
noncomputable def Hx (K:PySem.W.Frag) (a b:Addr):It:=
 ⟨fun i H=>∃xs ys x y,jx K H a xs∧jx K H b ys∧xs[i]?=some x∧ys[i]?=some y,
  fun i H v H'=>∃t x y,H t=none∧v=.ref t∧H'=upd H t (.tup [x,y])∧(∀xs,jx K H a xs→xs[i]?=some x)∧∀ys,jx K H b ys→ys[i]?=some y,
  fun i H=>∃xs ys,jx K H a xs∧jx K H b ys∧(xs.length≤i∨ys.length≤i)⟩
noncomputable def Yr (z TI TO i1 i2 l1 l2:Addr) (i:Nat) (h:Heap):Prop:=
 IsZip h z TI TO .none∧IsPair h TI (.ref i1) (.ref i2)∧(∃a b,IsPair h TO a b)∧h.IsListIter i1 l1 i∧h.IsListIter i2 l2 i
theorem JR {P:Program} {w:World} {K:PySem.W.Frag} {es:List Expr} {k1:Nat} {pos:Pos} {z TI TO i1 i2 l1 l2:Addr} (D:ZipApart z TI TO i1 i2 l1 l2) :
  Turn P w K (.Tuple es k1 pos) (Hx K l1 l2) [z,TI,TO,i1,i2] z (Yr z TI TO i1 i2 l1 l2) where
 mem:=by simp
 obj:=fun i h st b hb=>by
  obtain⟨a1,a2,⟨x,y,a3⟩,⟨o4,e4,_,d4⟩,o5,e5,_,d5⟩:=st
  simp only[List.mem_cons,List.not_mem_nil,or_false] at hb
  rcases hb with rfl | rfl | rfl | rfl | rfl
  ·exact⟨_,a1,fun v q=>by cases q⟩
  ·exact⟨_,a2,fun v q=>by cases q⟩
  ·exact⟨_,a3,fun v q=>by cases q⟩
  ·exact⟨_,e4,fun v q=>by rw[d4] at q;cases q⟩
  ·exact⟨_,e5,fun v q=>by rw[d5] at q;cases q⟩
 keep:=fun i h h' st k=>by
  obtain⟨a1,a2,⟨x,y,a3⟩,a4,a5⟩:=st
  exact⟨k z (by simp) _ a1,k TI (by simp) _ a2,⟨x,y,k TO (by simp) _ a3⟩,a4.at fun o e=>k i1 (by simp) o e,a5.at fun o e=>k i2 (by simp) o e⟩
 item:=by
  intro X hP hw hK hc i pins s σ H E I hf st hg
  subst hP hw hK
  obtain⟨xs,ys,x,y,hq1,hq2,hx,hy⟩:=hg
  obtain⟨its1,rv1,p1,_⟩:=I.list hq1
  obtain⟨its2,rv2,p2,_⟩:=I.list hq2
  obtain⟨u1,hu1,ru1⟩:=rv1.get hx
  obtain⟨u2,hu2,ru2⟩:=rv2.get hy
  obtain⟨a1,a2,⟨a,b,a3⟩,a4,a5⟩:=st
  refine wpAny_pyNext_zip_item D a1 a2 a3 a4 a5 p1.isList p2.isList (x:=u1) (y:=u2) (by simpa using hu1) (by simpa using hu2) fun h' b1 b2 b3 b4 b5 b6 bk=>?_
  refine⟨_,rfl,wpAny_letOwnedTupleGo_zip b1 fun h2 c1 c2=>?_⟩
  have lt:∀{c o},s.heap.get? c=some o→s.heap.objs.size≠c:=fun e=>Nat.ne_of_gt (Heap.lt_size e)
  have keepA:∀c o,c∉[z,TI,TO,i1,i2]→s.heap.get? c=some o→h2.get? c=some o:=fun c o hc e=>by
   simp only[List.mem_cons,List.not_mem_nil,or_false,not_or] at hc
   exact c2.extBut _ _ hc.1 (bk c o hc.1 hc.2.2.1 hc.2.2.2.1 hc.2.2.2.2 e)
  have T2:IsPair h2 s.heap.objs.size u1 u2:=c2.extBut _ _ (lt a1) b5
  refine⟨.ref s.heap.objs.size,upd H s.heap.objs.size (.tup [x,y]),I.Pn (t':=s.toks) hf keepA (Nat.le_refl _) ?_,rfl,⟨_,x,y,I.fresh,rfl,rfl,fun zs hz=>by rw[I.cE hz hq1];exact hx,fun zs hz=>by rw[I.cE hz hq2];exact hy⟩,?_,fun b hb=>?_⟩
  ·exact⟨by show 2≤sizeLine;decide,[u1,u2],.cons ru1 (.cons ru2 .nil),_,T2,rfl,0,rfl⟩
  ·exact⟨c1,c2.extBut _ _ D.TIz (bk TI _ D.TIz D.TITO D.TIi1 D.TIi2 a2),⟨_,_,c2.extBut _ _ D.TOz b2⟩,b3.extBut c2.extBut D.i1z,b4.extBut c2.extBut D.i2z⟩
  ·have hb':∃o,s.heap.get? b=some o:=by
    obtain⟨o4,e4,_⟩:=a4
    obtain⟨o5,e5,_⟩:=a5
    simp only[List.mem_cons,List.not_mem_nil,or_false] at hb
    rcases hb with rfl | rfl | rfl | rfl | rfl
    ·exact⟨_,a1⟩
    ·exact⟨_,a2⟩
    ·exact⟨_,a3⟩
    ·exact⟨_,e4⟩
    ·exact⟨_,e5⟩
   obtain⟨o,e⟩:=hb'
   rw[qB (Ne.symm (lt e))]
   exact(hf b hb).1
 done:=by
  intro X hP hw hK hc i pins s σ H E I hf st hg
  subst hP hw hK
  obtain⟨xs,ys,hq1,hq2,he⟩:=hg
  obtain⟨its1,rv1,p1,_⟩:=I.list hq1
  obtain⟨its2,rv2,p2,_⟩:=I.list hq2
  have l1':=rv1.length
  have l2':=rv2.length
  obtain⟨a1,a2,⟨a,b,a3⟩,a4,a5⟩:=st
  refine wpAny_pyNext_zip_end (I.ok.hd hc) D a1 a2 a3 a4 a5 p1.isList p2.isList ?_ fun h' bk=>⟨rfl,I.HB (t':=s.toks) hf fun c o hc e=>?_⟩
  ·rcases he with he | he
   ·exact .inl (by simp;omega)
   ·exact .inr (by simp;omega)
  ·simp only[List.mem_cons,List.not_mem_nil,or_false,not_or] at hc
   exact bk c o hc.1 hc.2.2.1 hc.2.2.2.1 hc.2.2.2.2 e
 self:=fun _ _ _ _ _ st h=>wpAny_pyIter_zip st.1 h
noncomputable def YH (K:PySem.W.Frag) (ta:TA):TI:=fun σ H R=>ta σ H fun vs H1=>∃a b xs ys,vs=[.ref a,.ref b]∧jx K H1 a xs∧jx K H1 b ys∧R (Hx K a b) H1
section
variable {X:Cx}
theorem WK {es:List Expr} {k1:Nat} {tpos:Pos} {a b:Expr} {ta:TA} {p pos:Pos} (hg:Gl X "zip") (hm:X.mg "zip" = none) (ha:PA X [a,b] ta) (hv:bootBuiltins "zip" = some (.type "zip"))
  (he:starEach [a,b] X.env=(false,eval a X.env) :: starEach [b] X.env:=by rfl) (hpl:(backTo pos (starEach [b] X.env)).any (·.1)=false:=by rfl) :
  PI X (.Tuple es k1 tpos) (.Call (.Name "zip" p) [a,b] [] pos) (YH X.K ta):=by
 intro pins s σ H R I h
 refine wpAny_Call_Name_kw (df I hg hm hv ?_)
 refine PyProof.Rows.callWith_type1 (xy (ha pos pins s σ H _ I h) fun us s1 ⟨vs,H1,I1,r1,q1⟩=>?_) he hpl
 obtain⟨l1,l2,xs,ys,rfl,hq1,hq2,q⟩:=q1
 obtain⟨its1,rv1,p1,_⟩:=I1.list hq1
 obtain⟨its2,rv2,p2,_⟩:=I1.list hq2
 cases r1 with
 | cons r rr=>
  cases rr with
  | cons r' rr=>
   cases rr
   cases r
   cases r'
   have b1:l1 < s1.heap.objs.size:=by obtain⟨_,_,e,_⟩:=p1;exact Heap.lt_size e
   have b2:l2 < s1.heap.objs.size:=by obtain⟨_,_,e,_⟩:=p2;exact Heap.lt_size e
   refine call_zip_2 p1.isList p2.isList fun h' c1 c2 c3 c4 c5 c6 ck=>?_
   refine wpAny_pyIter_zip (s:={ s1 with heap:=h' }) c1 ?_
   refine⟨_,_,_,_,H1,rfl,I1.kept (t':=s1.toks) ck,JR (zipApart_new b1 b2),⟨c1,c2,⟨_,_,c3⟩,c4,c5⟩,fun c hc=>?_,q⟩
   have:s1.heap.objs.size≤c:=by
    simp only[List.mem_cons,List.not_mem_nil,or_false] at hc
    rcases hc with rfl | rfl | rfl | rfl | rfl<;>omega
   exact I1.Zk this (I1.jw.fresh this)
theorem lY:∀(tk:Nat) (xs:List Str),Vals (xs.map V.str) (strsFrom tk xs)
 | _,[]=>.nil
 | tk,x :: r=>.cons ⟨tk,rfl⟩ (lY (tk + 1) r)
noncomputable def WH:V→List V→Hp→VK→Prop:=fun x vs H Q=>∃z y,x=.str z∧vs=[.str y]∧(y.length == 0)=false∧z.length + 2≤sizeLine∧Nw H (.lst ((Txt.split z y).map V.str)) Q
theorem gL:ZT X "str.split" WH:=by
 intro pins s σ H x vs v us Q I rx rv h
 obtain⟨z,y,rfl,rfl,hy,hz,q⟩:=h
 obtain⟨t,rfl⟩:=rx
 obtain⟨u,rfl,ru⟩:=rv.one
 obtain⟨t',rfl⟩:=ru
 have hsz:z.length≤sizeLine:=by omega
 have hle:=PyProof.Rows.split_le z y
 have fin:∀(l:List Value) (tk:Nat),Vals ((Txt.split z y).map V.str) l→EP X pins σ Q (.ref s.heap.objs.size) { s with heap:=s.heap.push { cls:=.type "list",data:=.seq l.toArray },toks:=tk }:=fun l tk r=>
  ⟨.ref s.heap.objs.size,_,I.QF (t':=tk) r (by rw[List.length_map];omega),rfl,q.el _ I.fresh⟩
 cases h1:(decide (z.length < y.length) || decide (Builtin.Str.strKind z < Builtin.Str.strKind y)) with
 | true=>
  refine call_meets F.slot_str_split (typeIs_str _ _ _) F.entry_str_split (F.args_str_split_2 _ _) (meets_str_split_cannot_occur z y t t' h1) ?_
  refine fin [.str z t] s.toks ?_
  have e:Txt.split z y=[z]:=if_pos h1
  rw[e];exact .cons ⟨t,rfl⟩ .nil
 | false=>
  cases hf:(Builtin.Str.occurrences z y 0 z.length (z.length + 1)).isEmpty with
  | true=>
   refine call_meets F.slot_str_split (typeIs_str _ _ _) F.entry_str_split (F.args_str_split_2 _ _) (meets_str_split_not_found z y t t' h1 hy hf) ?_
   refine fin [.str z t] s.toks ?_
   have e:Txt.split z y=[z]:=(if_neg (ne_true_of_eq_false h1)).trans (if_pos hf)
   rw[e];exact .cons ⟨t,rfl⟩ .nil
  | false=>
   have e:Txt.split z y=Builtin.Str.partsBetween z (Builtin.Str.occurrences z y 0 z.length (z.length + 1)) y.length:=(if_neg (ne_true_of_eq_false h1)).trans (if_neg (ne_true_of_eq_false hf))
   rw[e] at hle
   refine call_meets F.slot_str_split (typeIs_str _ _ _) F.entry_str_split (F.args_str_split_2 _ _) (meets_str_split_sep z y t t' h1 hy hf hsz (by omega)) ?_
   refine fin _ _ ?_
   rw[e];exact lY _ _
theorem XN {K:PySem.W.Frag} {es:List Expr} {k1:Nat} {tpos:Pos} {a b:Expr} {ta:TA} {p pos:Pos} (hK:X.K=K) (hg:Gl X "zip") (hm:X.mg "zip" = none) (ha:PA X [a,b] ta) (hv:bootBuiltins "zip" = some (.type "zip"))
  (he:starEach [a,b] X.env=(false,eval a X.env) :: starEach [b] X.env:=by rfl) (hpl:(backTo pos (starEach [b] X.env)).any (·.1)=false:=by rfl) :
  PI X (.Tuple es k1 tpos) (.Call (.Name "zip" p) [a,b] [] pos) (YH K ta):=hK▸WK hg hm ha hv he hpl
end
theorem Qm {K:PySem.W.Frag} {a b:Addr} {H:Hp} {xs ys:List V} {qS:List Nat} {te:TE} {σ:St} {Q:VK} (hx:jx K H a xs) (hy:jx K H b ys) (Pr:V→V→V→Prop) (hsz:xs.length≤sizeLine)
  (he:∀(i:Nat) (x y:V) (H':Hp) (Q':VK),xs[i]?=some x→ys[i]?=some y→qf H H'→(∀v H4,qf H' H4→Pr x y v→Q' v H4)→te ([some x,some y] ++ wI σ qS) H' Q')
  (hd:∀(D:Addr) (H':Hp) (vs:List V),qf H H'→H D=none→H' D=some (.lst vs)→vs.length=min xs.length ys.length→(∀(i:Nat) x y v,xs[i]?=some x→ys[i]?=some y→vs[i]?=some v→Pr x y v)→Q (.ref D) H') :
  tD (Hx K a b) 2 qS (V3 K 2 (Qe (dH 0) (Qe (dH 1) YV))) Kn te σ Q H:=by
 intro D hD
 refine⟨fun i m σ1 H2=>m=min xs.length ys.length - i∧i≤min xs.length ys.length∧(∃ts:List (Option V),ts.length=2∧σ1=ts ++ wI σ qS)∧qf H H2∧∃vs,H2 D=some (.lst vs)∧vs.length=i∧∀(j:Nat) x y v,xs[j]?=some x→ys[j]?=some y→vs[j]?=some v→Pr x y v,
  ⟨min xs.length ys.length,by omega,Nat.zero_le _,⟨_,List.length_replicate,rfl⟩,qf.nN hD,[],qr,rfl,fun j x y v _ _ e=>by simp at e⟩,?_⟩
 rintro i m σ1 H2 ⟨rfl,hi,⟨ts,htl,rfl⟩,s2,vs,hv,hvl,hp⟩
 have hx2:jx K H2 a xs:=WT hx s2
 have hy2:jx K H2 b ys:=WT hy s2
 by_cases hlt:i < min xs.length ys.length
 ·have h1:i < xs.length:=by omega
  have h2:i < ys.length:=by omega
  refine .inr ⟨⟨xs,ys,_,_,hx2,hy2,List.getElem?_eq_getElem h1,List.getElem?_eq_getElem h2⟩,fun u H3 q=>?_⟩
  obtain⟨tp,x,y,htn,rfl,rfl,ex,ey⟩:=q
  have ex:=ex xs hx2
  have ey:=ey ys hy2
  have s3:qf H2 (upd H2 tp (.tup [x,y])):=qf.nN htn
  match ts,htl with
  | [_,_],_=>
   refine⟨tp,[x,y],rfl,fz.of qr,rfl,x,[y],rfl,y,[],rfl,rfl,?_⟩
   unfold Kn
   dsimp only
   rw[if_pos rfl]
   refine he i x y _ _ ex ey (s2.trans s3) fun v H6 s6 pr=>⟨vs,s6 _ _ (s3 _ _ hv),by omega,min xs.length ys.length - (i + 1),by omega,rfl,hlt,⟨[some x,some y],rfl,rfl⟩,((s2.trans s3).trans s6).put hD,vs ++ [v],qr,by rw[List.length_append,hvl];rfl,fun j x' y' v' e1 e2 e3=>?_⟩
   by_cases hj:j < vs.length
   ·rw[List.getElem?_append_left hj] at e3
    exact hp j x' y' v' e1 e2 e3
   ·have hji:j=i:=by
     have:=(List.getElem?_eq_some_iff.mp e3).1
     rw[List.length_append,List.length_singleton] at this
     omega
    subst hji
    rw[List.getElem?_append_right (by omega),hvl,Nat.sub_self] at e3
    rw[ex] at e1
    rw[ey] at e2
    cases e1
    cases e2
    cases e3
    exact pr
 ·have e:i=min xs.length ys.length:=by omega
  refine .inl ⟨⟨xs,ys,hx2,hy2,by omega⟩,hd D H2 vs s2 hD hv (by omega) hp⟩
end L2
namespace L2
open PyProof.Rows PySem PySem.Spec
noncomputable def dW (h:Heap) (e C:Addr) (d:Option Addr) (tb:Value):Prop:=∃vs sl,h.get? e=some ⟨.ref C,d,.fields vs,sl⟩∧vs.size=6∧vs[1]?=some tb∧vs[2]?=some .none
noncomputable def ZN (h:Heap) (T:Addr) (fl:Value):Prop:=∃oT ts,h.get? T=some oT∧oT.data=.fields ts∧ts[3]?=some fl
structure fT (fs ch:List Addr) (h h':Heap):Prop where
 keep:∀b o,h.get? b=some o→b∉fs→b∉ch→h'.get? b=some o
 slot:∀b o,h.get? b=some o→b∈fs→b∉ch→∃sl,h'.get? b=some { o with slots:=sl }
 there:∀b o,h.get? b=some o→∃o',h'.get? b=some o'
theorem fT.trans {fs ch:List Addr} {h h1 h2:Heap} (a:fT fs ch h h1) (b:fT fs ch h1 h2):fT fs ch h h2 where
 keep:=fun c o e hf hc=>b.keep c o (a.keep c o e hf hc) hf hc
 slot:=fun c o e hf hc=>by
  obtain⟨sl,e1⟩:=a.slot c o e hf hc
  obtain⟨sl',e2⟩:=b.slot c _ e1 hf hc
  exact⟨sl',e2⟩
 there:=fun c o e=>by
  obtain⟨o',e1⟩:=a.there c o e
  exact b.there c o' e1
theorem fT.mono {fs ch ch':List Addr} {h h1:Heap} (a:fT fs ch h h1) (hs:∀b∈ch,b∈ch'):fT fs ch' h h1:=
 ⟨fun c o e hf hc=>a.keep c o e hf fun z=>hc (hs c z),fun c o e hf hc=>a.slot c o e hf fun z=>hc (hs c z),a.there⟩
section
variable {M:Model} {A:Around} {E:Value→Shared→Prop} {s:Shared} {base:Heap} {env:Env} {outer:List Env} {L e C:Addr} {d:Option Addr}
theorem fT.one {fs:List Addr} {h:Heap} {a:Addr} {f:Obj→Obj} {o:Obj} (ha:h.get? a=some o) (hf:(f o).isFreed=false):fT fs [a] h (h.update a f):=by
 have ne:∀b,b∉[a]→a≠b:=fun b hb q=>hb (by rw[q];exact List.mem_singleton.mpr rfl)
 refine⟨fun b u e _ hc=>(Heap.get?_update_other _ _ (ne b hc)).trans e,fun b u e _ hc=>⟨u.slots,(Heap.get?_update_other _ _ (ne b hc)).trans e⟩,fun b u e=>?_⟩
 by_cases q:a=b
 ·subst q;exact⟨_,Heap.get?_update_self _ ha hf⟩
 ·exact⟨u,(Heap.get?_update_other _ _ q).trans e⟩
theorem fT.push {fs ch:List Addr} {h:Heap} {o:Obj}:fT fs ch h (h.push o):=
 ⟨fun b u e _ _=>Heap.get?_push_of_some _ e,fun b u e _ _=>⟨u.slots,Heap.get?_push_of_some _ e⟩,fun b u e=>⟨u,Heap.get?_push_of_some _ e⟩⟩
theorem fT.slots {fs ch:List Addr} {h h':Heap} (x:Heap.SlotsOnly fs h h'):fT fs ch h h':=
 ⟨fun b u e hf _=>(x.2.1 b hf).trans e,fun b u e _ _=>x.2.2 b u e,fun b u e=>by obtain⟨sl,q⟩:=x.2.2 b u e;exact⟨_,q⟩⟩
theorem dW.slots {h h1 : Heap} {l : List Env} {tb : Value} (hx : dW h e C d tb) (hl : h.FunFrames base l) (k : Heap.SlotsOnly (l.filterMap (·.frame)) h h1) : dW h1 e C d tb := by
  obtain ⟨vs, sl, he, r⟩ := hx
  refine ⟨vs, sl, (k.2.1 e fun m => ?_).trans he, r⟩
  obtain ⟨_, o, ho, no⟩ := hl.mem m
  cases he.symm.trans ho
  exact no vs rfl
theorem entry_put {tb top : Value} {pl : List Value} {Q : Unit → Shared → Prop} (ip : IsPlace pl) (hx : dW s.heap e C d tb)
    (q : ∀ h' T, s.heap.objs.size ≤ T → dW h' e C d (.ref T) → ZN h' T (rawInt L) → (∀ fs, fT fs [e] s.heap h') → Q () { s with heap := h' }) : wpAny M A (EntryCells.newEntry top (.ref L) .none (rawInt L) .none pl >>= setField (.ref e) 1) Q E s := by
  obtain ⟨vs, sl, he, hsz, h1, h2⟩ := hx
  have lE := ip.sizeOk5 top (.ref L) .none (rawInt L) .none
  unfold EntryCells.newEntry newFields
  generalize ets : List.toArray _ = ts at lE
  have h3 : ts[3]? = some (rawInt L) := by rw [← ets]; rfl
  refine wpAny_bind (wpAny_newObj_type ?_ lE)
  generalize eot : ({ cls := .type "traceback", data := .fields ts } : Obj) = ot
  have nf : (Obj.mapFields (·.setIfInBounds 1 (Value.ref s.heap.objs.size)) ⟨.ref C, d, .fields vs, sl⟩).isFreed = false := Obj.isFreed_of_fields (Obj.data_mapFields rfl _)
  have ge : (s.heap.push ot).get? e = some ⟨.ref C, d, .fields vs, sl⟩ := Heap.get?_push_of_some _ he
  refine wpAny_setField ge rfl (by omega) (q _ s.heap.objs.size (Nat.le_refl _) ⟨vs.setIfInBounds 1 (Value.ref s.heap.objs.size), sl, Heap.get?_update_self _ ge nf, by simpa using hsz, by simp [hsz], ?_⟩ ⟨ot, ts, (Heap.get?_update_other _ _ (Nat.ne_of_lt (Heap.lt_size he))).trans (Heap.get?_push_size _ (by rw [← eot]; rfl)), by rw [← eot], h3⟩ fun fs => fT.push.trans (fT.one ge nf))
  rw [Array.getElem?_setIfInBounds_ne (by decide)]
  exact h2
theorem iB {Q : Unit → Shared → Prop} (hfr : A.frames = some (env :: outer)) (hl : s.heap.FunFrames base (env :: outer)) (hf : env.frame = some L) (hx : dW s.heap e C d .none)
    (hQ : ∀ h' T, s.heap.objs.size ≤ T → dW h' e C d (.ref T) → ZN h' T (rawInt L) → fT ((env :: outer).filterMap (·.frame)) [e] s.heap h' → Q () { s with heap := h' }) : wpAny M A (noteFrame (.ref e) env) Q E s := by
  obtain ⟨_, _, he, _, h1, _⟩ := id hx
  unfold noteFrame
  rw [hf]
  refine wpAny_bind (wpAny_field he rfl h1 ?_)
  rw [if_neg (by decide)]
  exact wpAny_bind (wpAny_frameOf_fun hfr hl hf fun h0 k0 => wpAny_bind (wpAny_entryPlaceOf fun _ ip => entry_put ip (hx.slots hl k0) fun h' T k1 k2 k3 k4 => hQ h' T (k0.1 ▸ k1) k2 k3 ((fT.slots k0).trans (k4 _))))
theorem lz {T0 : Addr} {Q : Unit → Shared → Prop} (hfr : A.frames = some (env :: outer)) (hl : s.heap.FunFrames base (env :: outer)) (hf : env.frame = some L) (hx : dW s.heap e C d (.ref T0)) (ht : ZN s.heap T0 .none) (hne : T0 ≠ e)
    (hQ : ∀ h' T, s.heap.objs.size ≤ T → dW h' e C d (.ref T) → ZN h' T (rawInt L) → fT ((env :: outer).filterMap (·.frame)) [e, T0] s.heap h' → Q () { s with heap := h' }) : wpAny M A (noteFrame (.ref e) env) Q E s := by
  obtain ⟨vs, sl, he, hsz, h1, h2⟩ := hx
  obtain ⟨oT, ts, gT, dT, h3⟩ := ht
  have t0 : fT ((env :: outer).filterMap (·.frame)) [T0] s.heap (s.heap.update T0 (Obj.mapFields (·.setIfInBounds 3 Value.none))) := fT.one gT (Obj.isFreed_of_fields (Obj.data_mapFields dT _))
  have x0 : dW (s.heap.update T0 (Obj.mapFields (·.setIfInBounds 3 Value.none))) e C d (.ref T0) := ⟨vs, sl, (Heap.get?_update_other _ _ hne).trans he, hsz, h1, h2⟩
  have l0 : (s.heap.update T0 (Obj.mapFields (·.setIfInBounds 3 Value.none))).FunFrames base (env :: outer) := hl.of_keeps fun b o gb no => by
    refine ⟨o, (Heap.get?_update_other _ _ fun z => ?_).trans gb, rfl⟩
    cases gT.symm.trans (z ▸ gb)
    exact no ts dT
  unfold noteFrame
  rw [hf]
  refine wpAny_bind (wpAny_field he rfl h1 ?_)
  rw [if_pos (by simp)]
  refine wpAny_bind (wpAny_field gT dT h3 ?_)
  rw [if_neg (by simp [rawInt])]
  refine wpAny_bind (wpAny_setField gT dT (Array.getElem?_eq_some_iff.mp h3).1 (wpAny_bind (wpAny_frameOf_fun hfr l0 hf fun h4 k0 => wpAny_bind (wpAny_entryPlaceOf fun _ ip => entry_put ip (x0.slots l0 k0) fun h' T k1 k2 k3 k4 => ?_))))
  refine hQ h' T ?_ k2 k3 ((t0.mono (by simp)).trans ((fT.slots k0).trans ((k4 _).mono (by simp))))
  rw [← Heap.size_update s.heap T0, ← k0.1]
  exact k1
theorem land {T:Addr} {fl:Value} {Q:Unit→Shared→Prop} (hx:dW s.heap e C d (.ref T)) (ht:ZN s.heap T fl) (hne:T≠e)
  (hQ:∀h',dW h' e C d (.ref T)→ZN h' T .none→(∀fs,fT fs [T] s.heap h')→Q () { s with heap:=h' }):wpAny M A (setFlight (.ref e) none) Q E s:=by
 obtain⟨vs,sl,he,hsz,h1,h2⟩:=hx
 obtain⟨oT,ts,hT,hdT,h3⟩:=ht
 have h3':3 < ts.size:=(Array.getElem?_eq_some_iff.mp h3).1
 have nf:(Obj.mapFields (·.setIfInBounds 3 Value.none) oT).isFreed=false:=Obj.isFreed_of_fields (Obj.data_mapFields hdT _)
 unfold setFlight
 refine wpAny_bind (wpAny_field he rfl h1 ?_)
 rw[if_pos (show (Value.ref T != Value.none)=true from by simp)];refine wpAny_setField hT hdT h3' (hQ _ ⟨vs,sl,(Heap.get?_update_other _ _ hne).trans he,hsz,h1,h2⟩ ⟨_,_,Heap.get?_update_self _ hT nf,Obj.data_mapFields hdT _,by simp [h3']⟩ fun fs=>fT.one hT nf)
theorem nB {Q:Unit→Shared→Prop} (hfr:A.frames=some (env :: outer)) (hl:s.heap.FunFrames base (env :: outer)) (hf:env.frame=some L) (hx:dW s.heap e C d .none)
  (hQ:∀h' T,s.heap.objs.size≤T→T≠e→dW h' e C d (.ref T)→ZN h' T .none→fT ((env :: outer).filterMap (·.frame)) [e,T] s.heap h'→Q () { s with heap:=h' }):wpAny M A (leaving env (.ref e)) Q E s:=by
 have he:e < s.heap.objs.size:=by obtain⟨vs,sl,he,_⟩:=hx;exact Heap.lt_size he
 unfold leaving
 refine wpAny_bind (iB hfr hl hf hx fun h1 T k1 k2 k3 k4=>?_)
 have hne:T≠e:=Nat.ne_of_gt (Nat.lt_of_lt_of_le he k1)
 exact land k2 k3 hne fun h2 j1 j2 j3=>hQ h2 T k1 hne j1 j2 ((k4.mono (by simp)).trans ((j3 _).mono (by simp)))
theorem iQ {T0:Addr} {Q:Unit→Shared→Prop} (hfr:A.frames=some (env :: outer)) (hl:s.heap.FunFrames base (env :: outer)) (hf:env.frame=some L) (hx:dW s.heap e C d (.ref T0)) (ht:ZN s.heap T0 .none) (hne0:T0≠e)
  (hQ:∀h' T,s.heap.objs.size≤T→T≠e→dW h' e C d (.ref T)→ZN h' T .none→fT ((env :: outer).filterMap (·.frame)) [e,T0,T] s.heap h'→Q () { s with heap:=h' }):wpAny M A (leaving env (.ref e)) Q E s:=by
 have he:e < s.heap.objs.size:=by obtain⟨vs,sl,he,_⟩:=hx;exact Heap.lt_size he
 unfold leaving
 refine wpAny_bind (lz hfr hl hf hx ht hne0 fun h1 T k1 k2 k3 k4=>?_)
 have hne:T≠e:=Nat.ne_of_gt (Nat.lt_of_lt_of_le he k1)
 exact land k2 k3 hne fun h2 j1 j2 j3=>hQ h2 T k1 hne j1 j2 ((k4.mono (by simp)).trans ((j3 _).mono (by simp)))
end
end L2
namespace L2
open PyProof.Rows PySem PySem.Spec
noncomputable def xO (e C:Addr) (d:Option Addr):HO:=.ext fun h=>∃tb,dW h e C d tb
theorem VW {P:Program} {w:World} {H:Hp} {h:Heap} {e C:Addr} {d:Option Addr} {tb:Value} (x:dW h e C d tb):xx P w H h e (xO e C d):=by
 obtain⟨vs,sl,he,r⟩:=x
 refine⟨⟨tb,vs,sl,he,r⟩,⟨_,he⟩,fun h1 h2 ⟨tb',vs',sl',he',r'⟩ k=>⟨tb',vs',sl',k _ he',r'⟩⟩
theorem VX {P:Program} {w:World} {H:Hp} {h:Heap} {e C:Addr} {d:Option Addr} (x:hU P w H h) (q:H e=some (xO e C d)):∃tb,dW h e C d tb:=(x e _ q).1
structure VB (a C:Addr) (d:Option Addr) (n:Nat) (H:Hp) (h:Heap) (T:Addr):Prop where
 at':dW h a C d (.ref T)
 tr:ZN h T .none
 ne:T≠a
 new:n≤T
 free:H T=none
 is:H a=some (xO a C d)
noncomputable def lP (P:Program) (w:World):u3:=fun outer H s E e s'=>∃(a C:Addr) (d:Option Addr) (T:Addr) (H':Hp),e=.ref a∧s'.os=s.os∧AllBare s'.gens∧Un (lA outer) [] H H' s.heap s'.heap∧hU P w H' s'.heap∧VB a C d s.heap.objs.size H' s'.heap T∧E (.ref C) (some a) H'
theorem sk {P:Program} {w:World} {H:Hp} {h h':Heap} {fs ch:List Addr} {a C:Addr} {d:Option Addr} {tb:Value} (x:hU P w H h) (t:fT fs ch h h') (hf:∀b∈fs,H b=none) (hc:∀b∈ch,b=a∨H b=none) (ha:H a=some (xO a C d)) (hx:dW h' a C d tb):hU P w H h':=by
 intro b o e
 by_cases q:b=a
 ·subst q
  rw[ha] at e
  cases e
  exact VW hx
 ·have kp:∀c u,c≠a→H c≠none→h.get? c=some u→h'.get? c=some u:=fun c u hca hcn e=>t.keep c u e (fun z=>hcn (hf c z)) fun z=>(hc c z).elim hca hcn
  refine(x b o e).tG (fun c u hcu e'=>?_) (fun _ z=>z) (fun _ _ z=>z)
  rcases hcu with rfl | hcu
  ·exact kp c u q (by rw[e];exact fun z=>nomatch z) e'
  ·refine kp c u (fun z=>?_) (by rw[hcu];exact fun z=>nomatch z) e'
   rw[z,ha] at hcu
   cases hcu
end L2
namespace L2
open PyProof.Rows PySem PySem.Spec
section
variable {X:Cx} {pins:List (Addr × Obj)} {σ:St} {H:Hp} {s:Shared} {a C:Addr} {d:Option Addr} {E:XK}
theorem Inv.B6 (I:Inv X pins σ H s) {h':Heap} {ch:List Addr} (hex:X.ex=[]) (t:fT (lA X.stack) ch s.heap h') (hc:∀b∈ch,H b≠none∨X.s₀.heap.objs.size≤b):Un X.fs [] X.H₀ H X.s₀.heap h':=by
 have u:=I.base
 rw[hex] at u
 have nch:∀b o,X.s₀.heap.get? b=some o→X.H₀ b=none→b∉ch:=fun b o e n hb=>by
  rcases hc b hb with q | q
  ·exact q (u.free b o e n (by simp))
  ·exact absurd (Heap.lt_size e) (Nat.not_lt.mpr q)
 have nloc:∀b o,X.s₀.heap.get? b=some o→b≠X.env.locals:=fun b o e z=>absurd (Heap.lt_size e) (Nat.not_lt.mpr (by rw[z];exact I.ok.above))
 refine⟨fun b o e n hb _=>?_,fun b o e n hb _=>?_,u.free,fun b o e _=>?_,u.rZ,u.cL,u.rm⟩
 ·refine t.keep b o (u.keep b o e n hb (by simp)) (fun z=>?_) (nch b o e n)
  rcases List.mem_cons.mp (I.uR b z) with q | q
  ·exact nloc b o e q
  ·exact hb q
 ·obtain⟨sl,e1⟩:=u.slot b o e n hb (by simp)
  by_cases q:b∈lA X.stack
  ·obtain⟨sl',e2⟩:=t.slot b _ e1 q (nch b o e n)
   exact⟨sl',e2⟩
  ·exact⟨sl,t.keep b _ e1 q (nch b o e n)⟩
 ·obtain⟨o',e1⟩:=u.there b o e (by simp)
  exact t.there b o' e1
theorem Inv.Wj {M:Model} {EE:Value→Shared→Prop} (I:Inv X pins σ H s) (hst:X.stack=X.env :: X.outer) (hf:X.env.frame=some X.env.locals) (hex:X.ex=[]) (ha:H a=some (xO a C d)) (hx:dW s.heap a C d .none) (hE:E (.ref C) (some a) H) :
  wpAny M X.A (leaving X.env (.ref a)) (fun _ s''=>lP X.prog X.w X.outer X.H₀ X.s₀ E (.ref a) s'') EE s:=by
 have hfr:=I.ok.frames
 have hst':=I.stack
 have hfree:=I.p5
 rw[hst] at hfr hst'
 refine nB hfr hst' hf hx fun h' T k1 k2 k3 k4 k5=>?_
 have hT:H T=none:=I.jw.fresh k1
 have hs:X.s₀.heap.objs.size≤T:=Nat.le_trans I.sz k1
 have k5':fT (lA X.stack) [a,T] s.heap h':=by rw[hst];exact k5
 refine⟨a,C,d,T,H,rfl,I.os,I.bare,I.B6 hex k5' (fun b hb=>?_),sk I.jw k5' hfree (fun b hb=>?_) ha k3,⟨k3,k4,k2,hs,hT,ha⟩,hE⟩
 ·simp only[List.mem_cons,List.not_mem_nil,or_false] at hb
  rcases hb with rfl | rfl
  ·exact .inl (by rw[ha];exact fun z=>nomatch z)
  ·exact .inr hs
 ·simp only[List.mem_cons,List.not_mem_nil,or_false] at hb
  rcases hb with rfl | rfl
  ·exact .inl rfl
  ·exact .inr hT
theorem Inv.QB {M:Model} {EE:Value→Shared→Prop} {T0:Addr} {n:Nat} (I:Inv X pins σ H s) (hst:X.stack=X.env :: X.outer) (hf:X.env.frame=some X.env.locals) (hex:X.ex=[]) (F:VB a C d n H s.heap T0) (hn:X.s₀.heap.objs.size≤n) (hE:E (.ref C) (some a) H) :
  wpAny M X.A (leaving X.env (.ref a)) (fun _ s''=>lP X.prog X.w X.outer X.H₀ X.s₀ E (.ref a) s'') EE s:=by
 have hfr:=I.ok.frames
 have hst':=I.stack
 have hfree:=I.p5
 rw[hst] at hfr hst'
 refine iQ hfr hst' hf F.at' F.tr F.ne fun h' T k1 k2 k3 k4 k5=>?_
 have hT:H T=none:=I.jw.fresh k1
 have hs:X.s₀.heap.objs.size≤T:=Nat.le_trans I.sz k1
 have k5':fT (lA X.stack) [a,T0,T] s.heap h':=by rw[hst];exact k5
 refine⟨a,C,d,T,H,rfl,I.os,I.bare,I.B6 hex k5' (fun b hb=>?_),sk I.jw k5' hfree (fun b hb=>?_) F.is k3,⟨k3,k4,k2,hs,hT,F.is⟩,hE⟩
 ·simp only[List.mem_cons,List.not_mem_nil,or_false] at hb
  rcases hb with (rfl | rfl | rfl)
  ·exact .inl (by rw[F.is];exact fun z=>nomatch z)
  ·exact .inr (Nat.le_trans hn F.new)
  ·exact .inr hs
 ·simp only[List.mem_cons,List.not_mem_nil,or_false] at hb
  rcases hb with (rfl | rfl | rfl)
  ·exact .inl rfl
  ·exact .inr F.free
  ·exact .inr hT
theorem Inv.YK {e:Value} {s':Shared} (I:Inv X pins σ H s) (h:lP X.prog X.w X.stack H s E e s'):∃a C d T H',e=.ref a∧Inv X pins σ H' s'∧VB a C d X.s₀.heap.objs.size H' s'.heap T∧E (.ref C) (some a) H':=by
 obtain⟨a,C,d,T,H',rfl,os,bare,un,jw,F,q⟩:=h
 refine⟨a,C,d,T,H',rfl,I.tO os (ch:=[]) un jw bare (fun b z=>absurd z (by simp)),⟨F.at',F.tr,F.ne,Nat.le_trans I.sz F.new,F.free,F.is⟩,q⟩
end
end L2
namespace L2
open PyProof.Rows PySem PySem.Spec
section
variable {P:Program} {w:World} {K:PySem.W.Frag} {mg:Str→Option Value} {base:Heap}
theorem aQ {N:List Str} {qual:Str} {scope:Scope} {f:Addr} {cd:Value} {A:Around} {outer:List Env} {s:Shared} {H:Hp} {E E':XK} (hE:∀c a H,E c a H→E' c a H):Passes (lP P w) (lO (lP P w) P w K mg base N qual scope f cd A outer s H E') E:=by
 intro pins σ H1 s1 e s' I h
 obtain⟨a,C,d,T,H',rfl,I',F,q⟩:=I.YK h
 exact I'.QB rfl rfl rfl F (Nat.le_refl _) (hE _ _ _ q)
theorem J9.GA {x qual:Str} {st:Stmt} {f:Addr} {fd:FuncData} {N ps:List Str} {k:Nat} {sp:Sp} (F:J9 K x qual st f fd) (S:qV N ps (z7 st)) (len:∀vs H Q E,sp vs H Q E→vs.length=ps.length)
  (hbody:∀(cdv:Value) (A:Around) (outer:List Env) (s:Shared) (H:Hp) (vs:List V) (Q:VK) (E:XK),kW k (A.deeper (envOfC qual (z7 st) s.heap.objs.size f cdv))→sp vs H Q E→
   ∃t,ij (lO (lP P w) P w K mg base N qual (z7 st) f cdv A outer s H E) (qy st) t∧t { nx:=fun _ H'=>Q .non H',rt:=Q } (start N vs) H):qW P w K mg base (lP P w) (k + 1) f fd ps sp:=by
 obtain⟨oc,od,kV,doc,pm,an,cdv,ct,osl,rfl,lk,hcd⟩:=F.ex
 exact KN lk hcd S len fun A outer s H vs Q E hr hsp=>hbody cdv A outer s H vs Q E hr hsp
end
end L2
namespace L2
open PyProof.Rows PySem PySem.Spec
noncomputable def qR:List Value→Bool
 | .ref _ :: r=>qR r
 | l=>l == [.type "ValueError",.type "Exception",.type "BaseException",.type "object"]
theorem uX (self:Value):∀{l:List Value},qR l=true→refuseLoop self "__setattr__" l=pure ()
 | .ref c :: r,e=>by rw[refuseLoop_ref];exact uX self e
 | [],e=>by simp [qR] at e
 | .type n :: r,e=>by
  have:(Value.type n :: r)=[.type "ValueError",.type "Exception",.type "BaseException",.type "object"]:=by simpa [qR] using e
  rw[this];exact PySem.F.store_ValueError.passes self
 | .none :: r,e=>by simp [qR] at e
 | .bool _ :: r,e=>by simp [qR] at e
 | .int _ _ :: r,e=>by simp [qR] at e
 | .str _ _ :: r,e=>by simp [qR] at e
 | .builtin _ :: r,e=>by simp [qR] at e
 | .float _ _ :: r,e=>by simp [qR] at e
theorem aR:∀{l:List Value},qR l=true→l.contains (.type "object")=true∧l.isEmpty=false
 | .ref c :: r,e=>⟨by rw[List.contains_cons,(aR (l:=r) e).1,Bool.or_true],rfl⟩
 | [],e=>by simp [qR] at e
 | .type n :: r,e=>by
  have:(Value.type n :: r)=[.type "ValueError",.type "Exception",.type "BaseException",.type "object"]:=by simpa [qR] using e
  rw[this];exact⟨by decide,rfl⟩
 | .none :: r,e=>by simp [qR] at e
 | .bool _ :: r,e=>by simp [qR] at e
 | .int _ _ :: r,e=>by simp [qR] at e
 | .str _ _ :: r,e=>by simp [qR] at e
 | .builtin _ :: r,e=>by simp [qR] at e
 | .float _ _ :: r,e=>by simp [qR] at e
structure KH (K:PySem.W.Frag) (C:Addr):Prop where
 mro:(PySem.W.clsIn K C).any (fun cd=>qR cd.mro && cd.hasDict)=true
 sa:PySem.W.findIn K (.ref C) "__setattr__" = some (some (.builtin "object.__setattr__"))
section
variable {prog:Program} {w:World} {A:Around} {K:PySem.W.Frag} {C x:Addr} {s:Shared} {R:Result→Shared→Prop}
theorem iz {ox : Obj} {od : Option Obj} {name : Str} {tk : Tok} {v : Value} (X : K.In s.heap) (I : PySem.W.InstAt s.heap x ox C od) (hp : (PySem.W.clsIn K C).any (fun cd => qR cd.mro && cd.hasDict) = true) (ht : PySem.W.findIn K (.ref C) name = some none)
    (h : ∀ b, wpAny (model prog w) A.in1 (Builtin.ObjectAttr.storeInOwnDict (.ref x) (.ref C) (.str name tk) name v b) (fun f s' => f = .done (.ret .none) ∧ R (.ok (.ret .none)) s') (fun _ _ => False) s) : codeAny (model prog w) A (.call (.builtin "object.__setattr__") ⟨[.ref x, .str name tk, v], []⟩) R s := by
  obtain ⟨cd, hc, ho⟩ := PySem.W.any_some hp
  have ov := (Bool.and_eq_true_iff.mp ho).1
  obtain ⟨top, some'⟩ := aR ov
  have lists : PySem.W.Looks (model prog w) s.heap (mroOf (.ref C)) cd.mro := (PySem.W.looks_clsIn X hc).andThen .now
  have over : PySem.W.mroIn K C (.type "object") = some true := by
    unfold PySem.W.mroIn
    simp only [hc, Option.bind_some, some', top, Bool.false_eq_true, if_false]
  have St := PySem.F.store_object
  have is : PySem.W.Looks (model prog w) s.heap (isInstance (.ref x) (.type "object")) true := I.type.andThen (PySem.W.looks_mroIn X over)
  have fit := St.args (.ref x) (.str name tk) v
  refine codeAny_call_builtin St.slot.plain St.entry (PySem.W.check_slot (M := model prog w) (i := "object.__setattr__") (owner := "object") (n := "__setattr__") St.kind St.split is fit ?_)
  rw [PySem.W.osa_eq, refuse_eq]
  refine wpAny_bind (wpAny_bind (I.type.here (wpAny_bind (lists.here ((uX _ ov).symm ▸ wpAny_pure ?_)))))
  refine wpAny_bind (I.type.here (wpAny_bind ((PySem.W.looks_findIn X ht).here (wpAny_bind (wpAny_pure (wpAny_mono (h _) (fun f s' z => ?_) fun _ _ z => z.elim))))))
  obtain ⟨rfl, z⟩ := z
  exact z
theorem bare_ns {h : Heap} {a : Addr} (g : h.get? a = some { cls := .type "dict", data := .dict #[] }) : h.Ns1 a fun _ => none := Heap.Ns1.of_empty ⟨_, _, _, g, rfl, fun _ z => absurd z (Array.not_mem_empty _), fun _ => rfl⟩
theorem ns_line {h : Heap} {a : Addr} {m : Str → Option Value} {ns : List Str} (n : h.Ns1 a m) (hw : PySem.Within m ns) (lE : ns.length ≤ 1001) {Q : Unit → Shared → Prop} {E : Value → Shared → Prop} {g : Array GenState} {dr : Drawn} {t : Nat} {os : OsState} (q : Q () ⟨h, g, dr, t, os⟩) : wpAny (model prog w) A (lookBehind a) Q E ⟨h, g, dr, t, os⟩ := by
  obtain ⟨o, es, ep, ho, hd, hcnt⟩ := n.count hw
  exact wpAny_lookBehind ho (by rw [hd]; exact pastItsLine_dict (by rw [sizeLine_eq]; omega)) q
theorem eQ {E : Value → Shared → Prop} {name : Str} {v : Value} {vs : Array Value} {sl : Array (Option Value)} {Q : Unit → Shared → Prop} (X : K.In s.heap) (c : KH K C) (hn : PySem.W.findIn K (.ref C) name = some none) (he : s.heap.get? x = some ⟨.ref C, none, .fields vs, sl⟩)
    (h : ∀ h' tk, h'.get? x = some ⟨.ref C, some s.heap.objs.size, .fields vs, sl⟩ → h'.Ns1 s.heap.objs.size (fun y => if y = name then some v else none) → (∀ b o, b ≠ x → s.heap.get? b = some o → h'.get? b = some o) → Q () { s with heap := h', toks := tk }) : wpAny (model prog w) A (setAttr (.ref x) name v) Q E s := by
  have I : PySem.W.InstAt s.heap x ⟨.ref C, none, .fields vs, sl⟩ C none := ⟨he, rfl, rfl, trivial⟩
  obtain ⟨cd, hc, ho⟩ := PySem.W.any_some c.mro
  have hd := (Bool.and_eq_true_iff.mp ho).2
  have far := Nat.ne_of_lt (Heap.lt_size he)
  have up : ∀ {b : Addr} {o : Obj}, s.heap.get? b = some o → (s.heap.push { cls := .type "dict", data := .dict #[] }).get? b = some o := fun q => Heap.get?_push_of_some _ q
  have clsd : PySem.W.Looks (model prog w) s.heap _ _ := PySem.W.looks_clsIn X hc
  refine PySem.W.set_plain X I c.sa (iz (s := { s with toks := s.toks + 1 }) X I c.mro hn fun b => ?_)
  refine wpAny_bind (wpAny_pure (wpAny_bind (wpAny_bind (wpAny_loadPart he (wpAny_bind (clsd.here (s := { s with toks := s.toks + 1 }) ?_))))))
  simp only [hd, Bool.not_true, Bool.false_eq_true, if_false, typeHasDict]
  refine wpAny_bind (wpAny_alloc (wpAny_bind (wpAny_update (up he) (wpAny_pure (a := some s.heap.objs.size) ?_))))
  refine wpAny_bind (wpAny_pure (wpAny_bind (?_ : wpAny _ _ (nsSet _ _ _) _ _ _)))
  refine wpAny_nsSet1 (bare_ns ((Heap.get?_update_other _ _ far).trans (Heap.get?_push_at rfl rfl))) fun h' n k => ?_
  refine wpAny_bind (ns_line n (PySem.Within.cons name v PySem.Within.nil) (Nat.succ_le_succ (Nat.zero_le 1000)) (wpAny_pure ⟨rfl, h h' _ ((k.2 x far).trans (Heap.get?_update_self _ (up he) rfl)) n fun b o nb q => ?_⟩))
  exact (k.2 b (Nat.ne_of_lt (Heap.lt_size q))).trans ((Heap.get?_update_other _ _ (Ne.symm nb)).trans (up q))
theorem ZS {E : Value → Shared → Prop} {name : Str} {v : Value} {vs : Array Value} {sl : Array (Option Value)} {dx : Addr} {mA : Str → Option Value} {ns : List Str} {Q : Unit → Shared → Prop} (X : K.In s.heap) (c : KH K C) (hn : PySem.W.findIn K (.ref C) name = some none) (he : s.heap.get? x = some ⟨.ref C, some dx, .fields vs, sl⟩)
    (hd : s.heap.Ns1 dx mA) (hw : PySem.Within mA ns) (hsz : ns.length ≤ 1000) (h : ∀ h' tk, h'.Ns1 dx (fun y => if y = name then some v else mA y) → Heap.SameBut dx s.heap h' → Q () { s with heap := h', toks := tk }) : wpAny (model prog w) A (setAttr (.ref x) name v) Q E s := by
  obtain ⟨od, gd, _⟩ := dm hd
  have I : PySem.W.InstAt s.heap x ⟨.ref C, some dx, .fields vs, sl⟩ C (some od) := ⟨he, rfl, rfl, gd⟩
  obtain ⟨cd, hc, ho⟩ := PySem.W.any_some c.mro
  have hasd := (Bool.and_eq_true_iff.mp ho).2
  have clsd : PySem.W.Looks (model prog w) s.heap _ _ := PySem.W.looks_clsIn X hc
  refine PySem.W.set_plain X I c.sa (iz (s := { s with toks := s.toks + 1 }) X I c.mro hn fun b => ?_)
  refine wpAny_bind (wpAny_pure (wpAny_bind (wpAny_bind (wpAny_loadPart he (wpAny_bind (clsd.here (s := { s with toks := s.toks + 1 }) ?_))))))
  rw [hasd]
  refine wpAny_pure (a := some dx) (wpAny_bind (wpAny_pure (wpAny_bind (wpAny_nsSet1 (s := { s with toks := s.toks + 1 }) hd fun h' n k => ?_))))
  exact wpAny_bind (ns_line n (PySem.Within.cons name v hw) (Nat.succ_le_succ hsz) (wpAny_pure ⟨rfl, h h' _ n k⟩))
end
end L2
namespace L2
open PyProof.Rows PySem PySem.Spec
section
end
end L2
namespace L2
open PyProof.Rows PySem PySem.Spec
noncomputable def xN (e C:Addr) (d:Option Addr):HO:=.ext fun h=>dW h e C d .none
noncomputable def xD (dx:Addr) (fs:List (Str × V)):HO:=.ext fun h=>∃mA,h.Ns1 dx mA∧(∀f,gW (fs.lookup f) (mA f))∧PySem.Within mA (fs.map (·.1))
theorem VJ {P:Program} {w:World} {H:Hp} {h:Heap} {e C:Addr} {d:Option Addr} (x:dW h e C d .none):xx P w H h e (xN e C d):=by
 obtain⟨vs,sl,he,r⟩:=x
 refine⟨⟨vs,sl,he,r⟩,⟨_,he⟩,fun h1 h2 ⟨vs',sl',he',r'⟩ k=>⟨vs',sl',k _ he',r'⟩⟩
theorem JO {P:Program} {w:World} {H:Hp} {h:Heap} {e C:Addr} {d:Option Addr} (x:hU P w H h) (q:H e=some (xN e C d)):dW h e C d .none:=(x e _ q).1
theorem VQ {P:Program} {w:World} {H:Hp} {h:Heap} {dx:Addr} {fs:List (Str × V)} {mA:Str→Option Value} (n:h.Ns1 dx mA) (r:∀f,gW (fs.lookup f) (mA f)) (wi:PySem.Within mA (fs.map (·.1))):xx P w H h dx (xD dx fs):=by
 have n':=n
 obtain⟨o,es,ep,ho,_⟩:=n'
 refine⟨⟨mA,n,r,wi⟩,⟨o,ho⟩,fun h1 h2 ⟨mA',⟨o',es',ep',ho',q⟩,r'⟩ k=>⟨mA',⟨o',es',ep',k _ ho',q⟩,r'⟩⟩
theorem VZ {P:Program} {w:World} {H:Hp} {h:Heap} {dx:Addr} {fs:List (Str × V)} (x:hU P w H h) (q:H dx=some (xD dx fs)):∃mA,h.Ns1 dx mA∧(∀f,gW (fs.lookup f) (mA f))∧PySem.Within mA (fs.map (·.1)):=(x dx _ q).1
section
variable {X:Cx} {pins:List (Addr × Obj)} {σ:St} {H:Hp} {s:Shared} {a C dx:Addr} {f:Str} {y:V} {u:Value} {o value:Expr} {ta tv:TE} {pos pos':Pos}
theorem oQ {fs:List (Str × V)} {mA:Str→Option Value} (r:∀g,gW (fs.lookup g) (mA g)) (ry:RelV y u) (f:Str):∀g,gW ((qP f y fs).lookup g) ((fun z=>if z=f then some u else mA z) g):=fun g=>by
 rw[pz]
 by_cases q:g=f
 ·simp only[q,if_true];exact ry
 ·simp only[q,if_false];exact r g
theorem u0 {fs:List (Str × V)} {mA:Str→Option Value} (wi:PySem.Within mA (fs.map (·.1))) (f:Str):PySem.Within (fun z=>if z=f then some u else mA z) ((qP f y fs).map (·.1)):=fun g hg=>by
 by_cases q:g=f
 ·rw[q];exact(gP f y fs).1
 ·refine(gP f y fs).2 g (wi g fun z=>hg ?_)
  show (if g=f then some u else mA g)=none
  rw[if_neg q];exact z
theorem J1 {A:Around} {E:Value→Shared→Prop} {Q:Unit→Shared→Prop} (I:Inv X pins σ H s) (e:H a=some (xN a C none)) (c:KH X.K C) (n:qH X.K C f) (ry:RelV y u)
  (h:∀dx s',H dx=none→dx≠a→Inv X pins σ (upd (upd H dx (xD dx [(f,y)])) a (xN a C (some dx))) s'→Q () s'):wpAny (model X.prog X.w) A (setAttr (.ref a) f u) Q E s:=by
 obtain⟨vs,sl,he,hsz,h1,h2⟩:=JO I.jw e
 refine eQ I.gB c n he fun h' tk k1 k2 k3=>h s.heap.objs.size _ (I.jw.fresh (Nat.le_refl _)) (Nat.ne_of_gt (Heap.lt_size he)) ?_
 have hax:a≠s.heap.objs.size:=Nat.ne_of_lt (Heap.lt_size he)
 have k2':=k2
 obtain⟨od,es,ep,ho,hd,hr⟩:=k2'
 have nf:od.isFreed=false:=(Heap.get?_some_iff.mp ho).2
 have g1:(s.heap.push od).get? s.heap.objs.size=some od:=Heap.get?_push_size _ nf
 have n1:(s.heap.push od).Ns1 s.heap.objs.size (fun z=>if z=f then some u else none):=⟨od,es,ep,g1,hd,hr⟩
 have r0:∀g,gW (List.lookup g ([(f,y)]:List (Str × V))) ((fun z=>if z=f then some u else none) g):=oQ (fs:=[]) (mA:=fun _=>none) (fun _=>True.intro) ry f
 have w0:PySem.Within (fun z=>if z=f then some u else none) (([(f,y)]:List (Str × V)).map (·.1)):=u0 (fs:=[]) (mA:=fun _=>none) (y:=y) (fun g hg=>absurd rfl hg) f
 have I1:=I.laid (a:=s.heap.objs.size) (o:=xD s.heap.objs.size [(f,y)]) (h':=s.heap.push od) (t':=s.toks) (fun b q z=>Heap.get?_push_of_some _ z) (Nat.le_refl _) (VQ n1 r0 w0)
 refine I1.write (x:=a) (e:=a) (h':=h') (t':=tk) (by rw[qB hax,e];exact True.intro) (.inl rfl) (fun b q hb z=>?_) ⟨_,k1⟩ (VJ ⟨vs,sl,k1,hsz,h1,h2⟩)
 by_cases qb:b=s.heap.objs.size
 ·subst qb
  rw[show (s.heap.push od).get? s.heap.objs.size=some od from g1] at z
  cases z
  exact ho
 ·refine k3 b q hb ?_
  rwa [Heap.get?_push_ne _ _ _ qb] at z
theorem J3 {A:Around} {E:Value→Shared→Prop} {Q:Unit→Shared→Prop} {fs:List (Str × V)} (I:Inv X pins σ H s) (e:H a=some (xN a C (some dx))) (ed:H dx=some (xD dx fs)) (c:KH X.K C) (n:qH X.K C f) (hl:fs.length≤900) (ry:RelV y u)
  (h:∀s',Inv X pins σ (upd H dx (xD dx (qP f y fs))) s'→Q () s'):wpAny (model X.prog X.w) A (setAttr (.ref a) f u) Q E s:=by
 obtain⟨vs,sl,he,hsz,h1,h2⟩:=JO I.jw e
 obtain⟨mA,n1,r1,w1⟩:=VZ I.jw ed
 refine ZS I.gB c n he n1 w1 (by rw[List.length_map];omega) fun h' tk k1 k2=>h _ ?_
 have hd:∃o,h'.get? dx=some o:=let ⟨o,_,_,e',_⟩:=k1;⟨o,e'⟩
 exact I.write (x:=dx) (e:=dx) (by rw[ed];exact True.intro) (.inl rfl) (fun b q hb z=>(k2.2 b hb).trans z) hd (VQ k1 (oQ r1 ry f) (u0 w1 f))
noncomputable def PH (K:PySem.W.Frag) (ta tv:TE) (f:Str):TS:=fun D σ H=>tv σ H fun y H1=>ta σ H1 fun x H2=>∃a C,x=.ref a∧KH K C∧qH K C f∧
 ((H2 a=some (xN a C none)∧∀dx,H2 dx=none→dx≠a→D.nx σ (upd (upd H2 dx (xD dx [(f,y)])) a (xN a C (some dx))))∨
  (∃dx fs,H2 a=some (xN a C (some dx))∧H2 dx=some (xD dx fs)∧fs.length≤900∧D.nx σ (upd H2 dx (xD dx (qP f y fs)))))
theorem XE (ha:PE X o ta) (hv:PE X value tv) (hs:swapsWith value (some (.Attribute o f pos')) pos.line X.env=pure false):PS X (.Assign [.Attribute o f pos'] value pos) (PH X.K ta tv f):=by
 intro pins s σ H D I h
 refine plainObj_wpAny_Assign_Attribute (xy (hv pins s σ H _ I h) fun u s1 ⟨y,H1,I1,ry,q⟩=>xy (ha pins s1 σ H1 _ I1 q) fun ov s2 ⟨x,H2,I2,rx,a,C,ex,c,n,q2⟩=>?_) hs
 subst ex
 obtain rfl:ov=Value.ref a:=rx
 rcases q2 with ⟨e1,k⟩ | ⟨dx,fs,e1,e2,hl,k⟩
 ·exact J1 I2 e1 c n ry fun dx s3 hn hne I3=>⟨σ,_,I3,k dx hn hne⟩
 ·exact J3 I2 e1 e2 c n hl ry fun s3 I3=>⟨σ,_,I3,k⟩
theorem uI:∀{l:List Value},qR l=true→l.contains (.type "ValueError")=true∧l.contains (.type "BaseException")=true∧l.contains (.type "AttributeError")=false∧l.contains (.type "NameError")=false
 | .ref c :: r,e=>by
  obtain⟨a,b,c,d⟩:=uI (l:=r) e
  exact⟨by rw[List.contains_cons,a,Bool.or_true],by rw[List.contains_cons,b,Bool.or_true],by rw[List.contains_cons,c];rfl,by rw[List.contains_cons,d];rfl⟩
 | [],e=>by simp [qR] at e
 | .type n :: r,e=>by
  have:(Value.type n :: r)=[.type "ValueError",.type "Exception",.type "BaseException",.type "object"]:=by simpa [qR] using e
  rw[this];decide
 | .none :: r,e=>by simp [qR] at e
 | .bool _ :: r,e=>by simp [qR] at e
 | .int _ _ :: r,e=>by simp [qR] at e
 | .str _ _ :: r,e=>by simp [qR] at e
 | .builtin _ :: r,e=>by simp [qR] at e
 | .float _ _ :: r,e=>by simp [qR] at e
noncomputable def hZ (K:PySem.W.Frag) (C:Addr):Bool:=match K.lookup C with
 | some ⟨c,_,.cls cd,sl⟩=>c == .type "type" && cd.mro.head? == some (.ref C) && qR cd.mro && !cd.hasDel && sl.size == 6 && sl[4]? == some (some (.builtin "ValueError.__new__"))
 | _=>false
theorem JE {K : PySem.W.Frag} {h : Heap} (x : K.In h) (e : hZ K C = true) : ∃ n1 n2 N l1 bm b1 l2 l3 b2 c1 d1 v0 v1 v2 v3 v5, h.get? C = some (excClassObj n1 n2 C N l1 bm b1 l2 l3 b2 c1 d1 v0 v1 v2 v3 v5 "ValueError.__new__") ∧ qR (.ref C :: bm) = true := by
  unfold hZ at e
  split at e
  · rename_i c dd cd sl hk
    simp only [Bool.and_eq_true, beq_iff_eq, Bool.not_eq_true'] at e
    obtain ⟨⟨⟨⟨⟨rfl, hm⟩, hv⟩, hdel⟩, hsz⟩, h4⟩ := e
    rcases cd with ⟨n1, l1, mro, N, n2, b1, l2, l3, b2, c1, del⟩
    cases hdel
    cases mro with
    | nil => cases hm
    | cons m bm =>
      cases hm
      obtain ⟨v0, v1, v2, v3, v5, hl⟩ := six_places (l := sl.toList) (v := some (.builtin "ValueError.__new__")) (by simpa using hsz) (by simpa using h4)
      cases sl
      cases hl
      exact ⟨n1, n2, N, l1, bm, b1, l2, l3, b2, c1, dd, v0, v1, v2, v3, v5, x _ _ hk, hv⟩
  · cases e
noncomputable def Yh (C:Addr) (o:Obj):Bool:=match o with
 | ⟨c,_,.cls cd,sl⟩=>c == .type "type" && cd.mro.head? == some (.ref C) && qR cd.mro && !cd.hasDel && sl.size == 6 && sl[4]? == some (some (.builtin "ValueError.__new__")) && cd.hasDict
 | _=>false
theorem JI {K:PySem.W.Frag} {o:Obj} (l:K.lookup C=some o) (h:Yh C o=true):hZ K C=true:=by
 unfold Yh at h
 split at h
 ·unfold hZ
  rw[l]
  exact(Bool.and_eq_true_iff.mp h).1
 ·cases h
theorem KQ {K:PySem.W.Frag} {o:Obj} (l:K.lookup C=some o) (h:Yh C o=true):(PySem.W.clsIn K C).any (fun cd=>qR cd.mro && cd.hasDict)=true:=by
 unfold Yh at h
 split at h
 ·rename_i c d cd sl
  unfold PySem.W.clsIn
  rw[l]
  simp only[Bool.and_eq_true] at h;simp [h.1.1.1.1.2,h.2]
 ·cases h
theorem V0 {K:PySem.W.Frag} {P:Addr} {c:Value} {b:Bool} (hx:hZ K P=true) (hs:PySem.W.subIn K (.ref P) (.type "BaseException")=some true) (ht:PySem.W.typeIn K (.ref P)=some (.type "type")) (hk:PySem.W.subIn K c (.ref P)=some b):PySem.W.exmOne K c (.ref P)=some b:=by
 have hc:(PySem.W.clsIn K P).isSome=true:=by
  unfold hZ at hx
  unfold PySem.W.clsIn
  split at hx
  ·rename_i l
   rw[l];rfl
  ·cases hx
 unfold PySem.W.exmOne PySem.W.kitCls
 simp [hs,ht,hk,hc]
section
open PySem.W
variable {w : World} {A : Around} {E : Value → Shared → Prop} {h : Heap} {g : Array GenState} {dr : Drawn} {t : Nat} {os : OsState} {prog : Program} {M : Model} {C : Addr}
/-- what a class of exceptions of ours, made by ValueError, answers to the asking for it -/
structure Xcl (M : Model) (h : Heap) (C : Addr) : Prop where
  obj : ∃ n1 n2 N l1 bm b1 l2 l3 b2 c1 d1 v0 v1 v2 v3 v5, h.get? C = some (excClassObj n1 n2 C N l1 bm b1 l2 l3 b2 c1 d1 v0 v1 v2 v3 v5 "ValueError.__new__")
  made : Looks M h (Bind.madeBy (.ref C)) (some "ValueError.__new__")
  base : Looks M h (Bind.staticBase (.ref C)) (.ref C)
  here : Looks M h (Bind.madeHere "BaseException.__new__" (.ref C)) ()
  val : Looks M h (isSubtype (.ref C) (.type "ValueError")) true
  exc : Looks M h (isSubtype (.ref C) (.type "BaseException")) true
  att : Looks M h (isSubtype (.ref C) (.type "AttributeError")) false
  nam : Looks M h (isSubtype (.ref C) (.type "NameError")) false
  self : Looks M h (isSubtype (.ref C) (.ref C)) true
theorem xcl_looks {K : Frag} (X : K.In h) (e : hZ K C = true) : Xcl M h C := by
  obtain ⟨n1, n2, N, l1, bm, b1, l2, l3, b2, c1, d1, v0, v1, v2, v3, v5, hC, hv⟩ := JE X e
  obtain ⟨a1, a2, a3, a4⟩ := uI hv
  have on : ∀ b r, (Value.ref C :: bm).contains b = r → Looks M h (isSubtype (.ref C) b) r := fun b r er A Q E s k q => wpAny_isSubtype_exc (k _ _ hC) (er ▸ q)
  exact ⟨⟨n1, n2, N, l1, bm, b1, l2, l3, b2, c1, d1, v0, v1, v2, v3, v5, hC⟩, fun A Q E s k q => wpAny_madeBy_exc (k _ _ hC) q, fun A Q E s k q => wpAny_staticBase_exc (k _ _ hC) q, fun A Q E s k q => wpAny_madeHere_exc PySem.F.excBase_ValueError.canon (k _ _ hC) q, on _ _ a1, on _ _ a2, on _ _ a3, on _ _ a4, on _ _ (by simp)⟩
theorem Xcl.keeps {h' : Heap} (x : Xcl M h C) (k : ∀ b o, h.get? b = some o → h'.get? b = some o) : Xcl M h' C := by
  obtain ⟨n1, n2, N, l1, bm, b1, l2, l3, b2, c1, d1, v0, v1, v2, v3, v5, hC⟩ := x.obj
  exact ⟨⟨n1, n2, N, l1, bm, b1, l2, l3, b2, c1, d1, v0, v1, v2, v3, v5, k _ _ hC⟩, x.made.keeps k, x.base.keeps k, x.here.keeps k, x.val.keeps k, x.exc.keeps k, x.att.keeps k, x.nam.keeps k, x.self.keeps k⟩
theorem Xcl.new_may (x : Xcl M h C) {rest : List Value} {Q : Unit → Shared → Prop} (q : Q () ⟨h, g, dr, t, os⟩) : wpAny M A (checkBuiltinCall "ValueError.__new__" ⟨.ref C :: rest, []⟩) Q E ⟨h, g, dr, t, os⟩ := by
  have F := PySem.F.excBase_ValueError
  have star := F.noStar
  obtain ⟨x1, x2, x3⟩ : _ ∧ _ ∧ _ := ⟨x.made, x.base, x.val⟩
  obtain ⟨_, _, _, _, _, _, _, _, _, _, _, _, _, _, _, _, hC⟩ := x.obj
  simp only [checkBuiltinCall, F.newKind, F.newSplit, F.newRow]
  repeat first | with_reducible refine wpAny_loadPart_at hC ?_ | simp only [bne_self_eq_false, Bool.false_eq_true, if_false, Bool.not_true] | with_reducible refine Looks.here (by assumption) ?_ | wp_step
  exact q
/-- the two things that are made: its args, and it -/
abbrev argsObj (rest : List Value) : Obj := { cls := .type "tuple", data := .seq rest.toArray }
abbrev excObj (C T : Addr) : Obj := { cls := .ref C, data := .fields #[.ref T, .none, .none, .none, .bool false, .none] }
theorem Xcl.new {R : Result → Shared → Prop} (x : Xcl (model prog w) h C) {rest : List Value} (lE : rest.length ≤ sizeLine)
    (q : R (.ok (.ret (.ref (h.objs.size + 1)))) ⟨(h.push (argsObj rest)).push (excObj C h.objs.size), g, dr, t, os⟩) : codeAny (model prog w) A (.builtin "ValueError.__new__" ⟨.ref C :: rest, []⟩) R ⟨h, g, dr, t, os⟩ := by
  have F := PySem.F.excBase_ValueError
  have ends := F.ends
  obtain ⟨_, _, _, _, _, _, _, _, _, _, _, _, _, _, _, _, hC⟩ := x.obj
  obtain ⟨x1, x2, x3, x4⟩ : _ ∧ _ ∧ _ ∧ _ := ⟨x.here, x.att, x.nam, x.val⟩
  refine codeAny_builtinAt F.entry ?_
  unfold Builtin.«BaseException.__new__»
  refine PySem.wpAt_bind (?_ : PySem.wpAt _ _ _ (stack >>= _) _ _ _)
  refine PySem.wpAt_bind (PySem.wpAt_stack fun p below => PySem.wpAt_of_wpAny ?_)
  wp_walk
  refine PySem.wpAt_of_wpAny (F.owner.symm ▸ ?_)
  repeat first | with_reducible refine wpAny_loadPart_at hC ?_ | with_reducible refine Looks.here (by assumption) ?_ | wp_step
  rw [← Heap.size_push] at q
  exact q
/-- C(rest): a new exception, and its own __init__ -/
theorem Xcl.make (x : Xcl (model prog w) h C) {rest : List Value} {init : Value} {Q : Value → Shared → Prop} (lE : rest.length ≤ sizeLine) (hi : Looks (model prog w) h (typeLookup (.ref C) "__init__") (some init)) (hb : ∀ v, Looks (model prog w) h (bindSpecial init v) (init, [v]))
    (go : wpAny (model prog w) (A.under (.builtin "type.__call__" ⟨.ref C :: rest, []⟩)) (call init (.ref (h.objs.size + 1) :: rest)) (fun r s' => r = .none ∧ Q (.ref (h.objs.size + 1)) s') E ⟨(h.push (argsObj rest)).push (excObj C h.objs.size), g, dr, t, os⟩) :
    wpAny (model prog w) A (call (.ref C) rest) Q E ⟨h, g, dr, t, os⟩ := by
  have F := PySem.F.excBase_ValueError
  obtain ⟨_, _, _, _, _, _, _, _, _, _, _, _, _, _, _, _, hC⟩ := x.obj
  have ty : Shared.TypeIs ⟨h, g, dr, t, os⟩ (.ref C) "type" := ⟨_, hC, rfl⟩
  obtain ⟨c1, c2⟩ : _ ∧ _ := ⟨tc_lookup, tc_bind (.ref C)⟩
  refine wpAny_call (codeAny_of_tree (?_ : wpAny _ _ (callAny (.ref C) _) _ _ _))
  repeat any_goals first | assumption | with_reducible refine wpAny_loadPart_at hC ?_ | wp_step
  refine ⟨rfl, codeAny_call_builtin_at (Code.quiet_builtin _ (by decide +kernel)) entry_typeCall (wpAny_check_type_call_sub hC ?_)⟩
  have made := x.made
  repeat first | with_reducible refine wpAny_loadPart_at hC ?_ | with_reducible refine Looks.here made ?_ | wp_step
  refine codeAny_call_builtin_code (Code.quiet_builtin _ F.quiet) (x.new_may (x.new lE (?_ : wpAny _ _ _ _ _ ⟨(h.push (argsObj rest)).push (excObj C h.objs.size), g, dr, t, os⟩)))
  have up : ∀ b o, h.get? b = some o → ((h.push (argsObj rest)).push (excObj C h.objs.size)).get? b = some o := fun b o e => Heap.get?_push_of_some _ (Heap.get?_push_of_some _ e)
  have new : ((h.push (argsObj rest)).push (excObj C h.objs.size)).get? (h.objs.size + 1) = some (excObj C h.objs.size) := Heap.get?_push_at (Heap.size_push ..).symm rfl
  obtain ⟨y1, y2, y3⟩ : _ ∧ _ ∧ _ := ⟨x.self.keeps up, hi.keeps up, (hb (.ref (h.objs.size + 1))).keeps up⟩
  generalize (h.push (argsObj rest)).push (excObj C h.objs.size) = h2 at go new y1 y2 y3
  unfold isInstance
  repeat first | with_reducible refine wpAny_loadPart_at new ?_ | with_reducible refine Looks.here y1 ?_ | wp_step
  refine (?_ : wpAny _ _ (typeLookup (.ref C) _) _ _ _)
  refine y2.here ?_
  refine wpAny_holding (wpAny_bind ?_)
  refine y3.here ?_
  refine wpAny_bind (xy go fun r s' z => ?_)
  obtain ⟨rfl, z⟩ := z
  wp_walk
  exact z
theorem born (h : Heap) (C : Addr) (rest : List Value) : Heap.MadeExcOf h ((h.push (argsObj rest)).push (excObj C h.objs.size)) (h.objs.size + 1) (.ref C) rest where
  keeps := fun b o e => Heap.get?_push_of_some _ (Heap.get?_push_of_some _ e)
  new := Heap.get?_none_of_le (Nat.le_succ _)
  there := ⟨h.objs.size, Heap.get?_push_at (Heap.size_push ..).symm rfl, Heap.get?_none_of_le (Nat.le_refl _), Heap.get?_push_of_some _ (Heap.get?_push_at rfl rfl)⟩
/-- the __init__ that every ValueError has, of no args: its args are told anew -/
theorem bare_init {e T : Addr} {Q : Value → Shared → Prop} (x : Xcl (model prog w) h C) (ge : h.get? e = some (excObj C T)) (q : Q .none ⟨(h.push (argsObj [])).update e (Obj.mapFields (·.setIfInBounds 0 (.ref h.objs.size))), g, dr, t, os⟩) :
    wpAny (model prog w) A (call (.builtin "ValueError.__init__") [.ref e]) Q E ⟨h, g, dr, t, os⟩ := by
  have F := PySem.F.excBase_ValueError
  have is : Looks (model prog w) h (isInstance (.ref e) (.type "ValueError")) true := ((Looks.ld ge).andThen .now).andThen x.val
  have star := F.noStar
  have may : ∀ {Q1 : Unit → Shared → Prop} {E1 : Value → Shared → Prop} {A1 : Around}, Q1 () ⟨h, g, dr, t, os⟩ → wpAny (model prog w) A1 (checkBuiltinCall "ValueError.__init__" ⟨[.ref e], []⟩) Q1 E1 ⟨h, g, dr, t, os⟩ := fun q1 => by
    obtain ⟨_, _, _, _, _, _, _, _, _, _, _, _, _, _, _, _, hC⟩ := x.obj
    have val := x.val
    simp only [checkBuiltinCall, F.initKind, F.initSplit, F.initRow]
    repeat first | with_reducible refine Looks.here is ?_ | with_reducible refine wpAny_loadPart_at ge ?_ | with_reducible refine wpAny_loadPart_at hC ?_ | wp_step
    exact q1
  refine wpAny_call (codeAny_call_builtin F.init.plain F.initEntry (may ?_))
  repeat first | with_reducible refine wpAny_loadPart_at ge ?_ | wp_step

  exact q
end
structure Hh (K:PySem.W.Frag) (C f:Addr):Prop where
 xc:hZ K C=true
 init:PySem.W.findIn K (.ref C) "__init__" = some (some (.ref f))
 fn:PySem.W.isFn K (.ref f)=true
 kp:PySem.W.keepIn K (.ref C)=true
section
variable {CX:u3} {k:Nat} {fI:Addr} {fd:FuncData} {ps:List Str} {sp:Sp} {dvs vs:List V} {ds us:List Value} {E:XK} {Q:VK} {x:Str} {p:Pos} {e:Expr} {es:List Expr} {t:TA}
theorem XJ {h h':Heap} {e:Addr} {args:List Value} (m:Heap.MadeExcOf h h' e (.ref C) args):dW h' e C none .none:=by
 obtain⟨t,he,_⟩:=m.there
 exact⟨_,_,he,rfl,rfl,rfl⟩
theorem ZW (M : Hh X.K C fI) (F : qW X.prog X.w X.K X.mg X.base CX k fI fd ps sp) (hr : kW (k + 1) X.A) (hb : Binds X.K fd ps ds) (hd : Vals dvs ds) (hx : Passes CX X E) (I : Inv X pins σ H s) (r : Vals vs us) (hz : vs.length ≤ sizeLine)
    (h : ∀ a, H a = none → sp (.ref a :: (vs ++ dvs)) (upd H a (xN a C none)) (fun v H2 => v = .non ∧ Q (.ref a) H2) E) : wpAny (model X.prog X.w) X.A (call (.ref C) us) (EP X pins σ Q) X.xe s := by
  have ZA := I.gB
  rcases s with ⟨hp, g, d, tk, os⟩
  refine (xcl_looks ZA M.xc).make (by rw [← r.length]; exact hz) (PySem.W.looks_findIn ZA M.init) (fun v => PySem.W.bind_fn ZA v (beq_iff_eq.mp M.fn)) ?_
  have hm := born hp C us
  have hn : hp.objs.size ≤ hp.objs.size + 1 := Nat.le_succ _
  generalize (hp.push (argsObj us)).push (excObj C hp.objs.size) = h', hp.objs.size + 1 = e at hm hn
  have hq := h e (I.jw.fresh hn)
  have I2 : Inv X pins σ (upd H e (xN e C none)) ⟨h', g, d, tk, os⟩ := I.laid (a := e) (o := xN e C none) (h' := h') (t' := tk) hm.keeps hn (VJ (XJ hm))
  have r2 : Vals (V.ref e :: (vs ++ dvs)) (Value.ref e :: (us ++ ds)) := .cons rfl (r.append hd)
  have hl : (Value.ref e :: us ++ ds).length = ps.length := by
    have e' := r2.length
    rw [F.len _ _ _ _ hq] at e'
    exact e'.symm
  refine wpAny_call (codeAny_mono (F.run _ X.stack _ _ ⟨Value.ref e :: us, []⟩ (Value.ref e :: (us ++ ds)) _ _ E (hr.make C us []) (I2.Xp.make C us []) (hb _ (Value.ref e :: us) I2.gB hl) r2 hq) fun r s' hq' => ?_)
  cases r with
  | error e' => exact hx pins σ _ _ e' s' I2 hq'
  | ok fl =>
    cases fl with
    | ret u =>
      obtain ⟨v, H', I3, rv, ev, q3⟩ := I2.after hq'
      subst ev
      exact ⟨rv, ⟨V.ref e, H', I3, rfl, q3⟩⟩
    | next => exact False.elim hq'
    | brk => exact False.elim hq'
    | cont => exact False.elim hq'
noncomputable def W4 (C:Addr) (sp:Sp) (dvs:List V) (E:XK) (t:TA):TE:=fun σ H Q=>t σ H fun vs H1=>vs.length≤sizeLine∧∀a,H1 a=none→sp (.ref a :: (vs ++ dvs)) (upd H1 a (xN a C none)) (fun v H2=>v=.non∧Q (.ref a) H2) E
theorem gS {pos:Pos} (M:Hh X.K C fI) (F:qW X.prog X.w X.K X.mg X.base CX k fI fd ps sp) (hr:kW (k + 1) X.A) (hg:Gl X x) (hm:X.mg x=some (.ref C)) (hb:Binds X.K fd ps ds) (hd:Vals dvs ds) (hx:Passes CX X E)
  (ha:PA X (e :: es) t) (hdb:(x == ("__debug__" : Str))=false:=by decide) (he:starEach (e :: es) X.env=(false,eval e X.env) :: starEach es X.env:=by rfl) (hpl:(backTo pos (starEach es X.env)).any (·.1)=false:=by rfl) :
  PE X (.Call (.Name x p) (e :: es) [] pos) (W4 C sp dvs E t):=by
 intro pins s σ H Q I h
 refine wpAny_Call_Name_kw (gb I hg hm ?_ hdb)
 refine PySem.W.callWith_K (h₀:=X.base) I.ok.mod.ZA M.kp (xy (ha pos pins s σ H _ I h) fun us s1 ⟨vs,H1,I1,r,hz,q⟩=>⟨I1.gB,?_⟩) he hpl
 exact ZW M F hr hb hd hx I1 r hz q
structure Ph (K:PySem.W.Frag) (C:Addr):Prop where
 xc:hZ K C=true
 init:PySem.W.findIn K (.ref C) "__init__" = some (some (.builtin "ValueError.__init__"))
 kp:PySem.W.keepIn K (.ref C)=true
noncomputable def G5 (C:Addr):TE:=fun _ H Q=>∀a,H a=none→Q (.ref a) (upd H a (xN a C none))
end
end
end L2
namespace L2
open PyProof.Rows PySem PySem.Spec
section
variable {X:Cx} {pins:List (Addr × Obj)} {σ:St} {H:Hp} {s:Shared} {a C:Addr} {d:Option Addr} {e:Expr} {te:TE} {pos:Pos} {E:XK}
theorem Kq {K : PySem.W.Frag} {M : Model} {A : Around} {EE : Value → Shared → Prop} {env : Env} {x : Sem Value} {Q : Flow → Shared → Prop} (hh : A.handled = none)
    (h : wpAny M A x (fun v s1 => ∃ e C d, v = .ref e ∧ K.In s1.heap ∧ hZ K C = true ∧ dW s1.heap e C d .none ∧ EE (.ref e) s1) EE s) : wpAny M A (raiseStmt env (some x) none) Q EE s := by
  unfold raiseStmt
  refine wpAny_bind (wpAny_mono h (fun v s1 h1 => ?_) fun _ _ z => z)
  obtain ⟨e, C, d, rfl, ZA, hk, ⟨vs, sl, he, hsz, h1, h2⟩, hE⟩ := h1
  have x := (xcl_looks (M := M) ZA hk).exc
  obtain ⟨_, _, _, _, _, _, _, _, _, _, _, _, _, _, _, _, hC⟩ := (xcl_looks (M := M) ZA hk).obj
  rcases s1 with ⟨hp, g, dr, tk, os⟩
  (repeat first | with_reducible refine wpAny_loadPart_at he ?_ | with_reducible refine wpAny_loadPart_at hC ?_ | with_reducible refine PySem.W.Looks.here x ?_ | wp_step); rw [h1]
  refine wpAny_pure ?_
  rw [if_neg (by decide)]
  exact wpAny_pure (wpAny_raiseNew_none hh hE)
noncomputable def Raises (X:Cx) (E:XK):Prop:=∀(pins:List (Addr × Obj)) (σ:St) (H:Hp) (s:Shared) (a C:Addr) (d:Option Addr),Inv X pins σ H s→H a=some (xO a C d)→dW s.heap a C d .none→E (.ref C) (some a) H→X.xe (.ref a) s
theorem pE {P:Program} {w:World} {K:PySem.W.Frag} {mg:Str→Option Value} {base:Heap} {N:List Str} {qual:Str} {scope:Scope} {f:Addr} {cd:Value} {A:Around} {outer:List Env} {s:Shared} {H:Hp} {E:XK}:Raises (lO (lP P w) P w K mg base N qual scope f cd A outer s H E) E:=
 fun _ _ _ _ _ _ _ I ha hx hE=>I.Wj rfl rfl rfl ha hx hE
noncomputable def W6 (K:PySem.W.Frag) (E:XK) (te:TE):TS:=fun _ σ H=>te σ H fun v H1=>∃a C d,v=.ref a∧hZ K C=true∧H1 a=some (xN a C d)∧E (.ref C) (some a) (upd H1 a (xO a C d))
theorem gO (hX:Raises X E) (hc:X.calm=true) (he:PE X e te):PS X (.Raise (some e) none pos) (W6 X.K E te):=by
 intro pins s σ H D I h
 rw[arm_exec_Raise]
 refine wpAny_bind (wpAny_standAt (Kq (K:=X.K) (I.ok.hd hc) ?_))
 refine wpAny_bind (xy (he pins s σ H _ I h) fun u s1 ⟨v,H1,I1,rv,a,C,d,ev,hk,ha,hE⟩=>wpAny_bind (wpAny_standAt (wpAny_pure ?_)))
 subst ev
 obtain rfl:u=Value.ref a:=rv
 have hx:=JO I1.jw ha
 obtain⟨vs,sl,hg,r⟩:=id hx
 have I2:Inv X pins σ (upd H1 a (xO a C d)) s1:=I1.write (x:=a) (e:=a) (h':=s1.heap) (t':=s1.toks) (by rw[ha];exact True.intro) (.inl rfl) (fun b q _ z=>z) ⟨_,hg⟩ (VW hx)
 exact⟨a,C,d,rfl,I1.gB,hk,hx,hX pins σ _ s1 a C d I2 qr hx hE⟩
end
end L2
namespace L2
open PyProof.Rows PySem PySem.Spec
section
variable {X:Cx} {pins:List (Addr × Obj)} {σ:St} {H:Hp} {s:Shared} {a C:Addr} {d:Option Addr} {E Eh:XK}
noncomputable def Z5 (X:Cx) (pins:List (Addr × Obj)) (σ:St) (Eh:XK) (ex:Value) (s':Shared):Prop:=∃a C d T H',ex=.ref a∧Inv X pins σ H' s'∧VB a C d X.s₀.heap.objs.size H' s'.heap T∧(∀p∈X.pn ++ pins,p.1≠T)∧Eh (.ref C) (some a) H'
theorem Inv.V2 {e:Value} {s':Shared} (I:Inv X pins σ H s) (h:lP X.prog X.w X.stack H s E e s'):Z5 X pins σ E e s':=by
 obtain⟨a,C,d,T,H',rfl,os,bare,un,jw,F,q⟩:=h
 refine⟨a,C,d,T,H',rfl,I.tO os (ch:=[]) un jw bare (fun b z=>absurd z (by simp)),⟨F.at',F.tr,F.ne,Nat.le_trans I.sz F.new,F.free,F.is⟩,fun p hp=>?_,q⟩
 exact Nat.ne_of_lt (Nat.lt_of_lt_of_le (Heap.lt_size (I.pin p hp).1) F.new)
noncomputable def Hw (X:Cx) (Eh:XK) (e:Expr) (te:TE):Prop:=∀(pins:List (Addr × Obj)) (s:Shared) (σ:St) (H:Hp) (Q:VK),Inv X pins σ H s→te σ H Q→wpAny (model X.prog X.w) X.A (eval e X.env) (EP X pins σ Q) (Z5 X pins σ Eh) s
section
variable {k:Nat} {f:Addr} {fd:FuncData} {ps:List Str} {sp:Sp} {dvs:List V} {ds:List Value} {x:Str} {p pos:Pos} {e:Expr} {es:List Expr} {t:TA}
theorem Kh {Q:VK} {us:List Value} {vs:List V} (F:qW X.prog X.w X.K X.mg X.base (lP X.prog X.w) k f fd ps sp) (hr:kW k X.A) (hb:Binds X.K fd ps ds) (hd:Vals dvs ds)
  (I:Inv X pins σ H s) (r:Vals vs us) (h:sp (vs ++ dvs) H Q Eh):wpAny (model X.prog X.w) X.A (call (.ref f) us) (EP X pins σ Q) (Z5 X pins σ Eh) s:=by
 have r2:Vals (vs ++ dvs) (us ++ ds):=r.append hd
 have hl:(us ++ ds).length=ps.length:=by rw[←r2.length];exact F.len _ _ _ _ h
 refine wpAny_call (codeAny_mono (F.run X.A X.stack s H ⟨us,[]⟩ (us ++ ds) (vs ++ dvs) Q Eh hr I.Xp (hb s us I.gB hl) r2 h) fun r s' hq=>?_)
 cases r with
 | error e=>exact I.V2 hq
 | ok fl=>
  cases fl with
  | ret u=>exact I.after hq
  | next=>exact False.elim hq
  | brk=>exact False.elim hq
  | cont=>exact False.elim hq
theorem Jj (hxe:∀e s,X.xe e s→False) (F:qW X.prog X.w X.K X.mg X.base (lP X.prog X.w) k f fd ps sp) (hr:kW k X.A) (hg:Gl X x) (hm:X.mg x=some (.ref f)) (hk:PySem.W.keepIn X.K (.ref f)=true) (hb:Binds X.K fd ps ds) (hd:Vals dvs ds)
  (ha:PA X (e :: es) t) (hdb:(x == ("__debug__" : Str))=false:=by decide) (he:starEach (e :: es) X.env=(false,eval e X.env) :: starEach es X.env:=by rfl) (hpl:(backTo pos (starEach es X.env)).any (·.1)=false:=by rfl) :
  Hw X Eh (.Call (.Name x p) (e :: es) [] pos) (JD sp dvs Eh t):=by
 intro pins s σ H Q I h
 refine wpAny_Call_Name_kw (gb I hg hm ?_ hdb)
 refine PySem.W.callWith_K (h₀:=X.base) I.ok.mod.ZA hk (wpAny_mono (ha pos pins s σ H _ I h) (fun us s1 ⟨vs,H1,I1,r,q⟩=>⟨I1.gB,?_⟩) fun e s z=>(hxe e s z).elim) he hpl
 exact Kh F hr hb hd I1 r q
end
theorem Inv.B5 {h':Heap} {ch:List Addr} {tb:Value} (I:Inv X pins σ H s) (t:fT (lA X.stack) ch s.heap h') (ha:H a=some (xO a C d)) (hx:dW h' a C d tb)
  (hc:∀b∈ch,b=a∨s.heap.objs.size≤b∨(H b=none∧X.s₀.heap.objs.size≤b∧(∃fl,ZN s.heap b fl)∧∀p∈X.pn ++ pins,p.1≠b)):Inv X pins σ H { s with heap:=h' }:=by
 have hn:∀b∈ch,b=a∨H b=none:=fun b hb=>by
  rcases hc b hb with q | q | q
  ·exact .inl q
  ·exact .inr (I.jw.fresh q)
  ·exact .inr q.1
 have jw:hU X.prog X.w H h':=sk I.jw t I.p5 hn ha hx
 have nch:∀b o,s.heap.get? b=some o→H b=none→b∉ch.filter (fun b=>decide (b≠a∧b < s.heap.objs.size))→b∉ch:=fun b o e n hb z=>by
  refine hb (List.mem_filter.mpr ⟨z,decide_eq_true ⟨fun q=>?_,Heap.lt_size e⟩⟩)
  rw[q,ha] at n
  cases n
 have u:Un (lA X.stack) (ch.filter (fun b=>decide (b≠a∧b < s.heap.objs.size))) H H s.heap h':=by
  refine⟨fun b o e n hf hx=>t.keep b o e hf (nch b o e n hx),fun b o e n hf hx=>t.slot b o e hf (nch b o e n hx),fun _ _ _ n _=>n,fun b o e _=>t.there b o e,fun _ _ z=>z,fun _ _ _ z=>z,fun _ ps z=>⟨#[],by rw[z];simp⟩⟩
 refine I.tO (s':={ s with heap:=h' }) rfl u jw I.bare fun b hb=>?_
 obtain⟨hb,hb2⟩:=List.mem_filter.mp hb
 have hb2:=of_decide_eq_true hb2
 rcases hc b hb with q | q | ⟨q1,q2,⟨fl,oT,ts,q3,q4,q5⟩,q6⟩
 ·exact absurd q hb2.1
 ·exact absurd hb2.2 (Nat.not_lt.mpr q)
 ·refine⟨.inr q2,fun z=>?_,fun x c e z=>?_,q6⟩
  ·obtain⟨m,⟨o,es,ep,ho,hd,_⟩,_⟩:=I.loc
   rw[←z,q3] at ho
   cases ho
   rw[q4] at hd
   cases hd
  ·obtain⟨v,hv⟩:=I.cell x c e
   rw[z] at hv
   obtain⟨o,ho,hd⟩:=hv
   rw[q3] at ho
   cases ho
   rw[q4] at hd
   cases hd
theorem Inv.lands {M:Model} {A:Around} {EE:Value→Shared→Prop} {T:Addr} {fl:Value} {Q:Unit→Shared→Prop} (I:Inv X pins σ H s) (ha:H a=some (xO a C d)) (hx:dW s.heap a C d (.ref T)) (ht:ZN s.heap T fl) (hne:T≠a) (hT:H T=none) (hn:X.s₀.heap.objs.size≤T) (hp:∀p∈X.pn ++ pins,p.1≠T)
  (hQ:∀h',Inv X pins σ H { s with heap:=h' }→VB a C d X.s₀.heap.objs.size H h' T→Q () { s with heap:=h' }):wpAny M A (setFlight (.ref a) none) Q EE s:=by
 refine land hx ht hne fun h' k1 k2 k3=>hQ h' (I.B5 (k3 _) ha k1 fun b hb=>?_) ⟨k1,k2,hne,hn,hT,ha⟩
 rw[List.mem_singleton.mp hb]
 exact .inr (.inr ⟨hT,hn,⟨fl,ht⟩,hp⟩)
theorem Inv.VU {M:Model} {EE:Value→Shared→Prop} {T:Addr} {Q:Unit→Shared→Prop} (I:Inv X pins σ H s) (hst:X.stack=X.env :: X.outer) (hf:X.env.frame=some X.env.locals) (F:VB a C d X.s₀.heap.objs.size H s.heap T) (hp:∀p∈X.pn ++ pins,p.1≠T)
  (hQ:∀h' T',Inv X pins σ H { s with heap:=h' }→VB a C d X.s₀.heap.objs.size H h' T'→(∀p∈X.pn ++ pins,p.1≠T')→Q () { s with heap:=h' }) :
  wpAny M X.A (noteFrame (.ref a) X.env) (fun _ s2=>wpAny M X.A (setFlight (.ref a) none) Q EE s2) EE s:=by
 have hfr:=I.ok.frames
 have hst':=I.stack
 rw[hst] at hfr hst'
 refine lz hfr hst' hf F.at' F.tr F.ne fun h1 T1 k1 k2 k3 k4=>?_
 have hne:T1≠a:=Nat.ne_of_gt (Nat.lt_of_lt_of_le (I.jw.lt F.is) k1)
 have hT1:H T1=none:=I.jw.fresh k1
 have k4':fT (lA X.stack) [a,T] s.heap h1:=by rw[hst];exact k4
 have I1:Inv X pins σ H { s with heap:=h1 }:=I.B5 k4' F.is k2 fun b hb=>by
  simp only[List.mem_cons,List.not_mem_nil,or_false] at hb;rcases hb with rfl | rfl
  ·exact .inl rfl
  ·exact .inr (.inr ⟨F.free,F.new,⟨_,F.tr⟩,hp⟩)
 have hp1:∀p∈X.pn ++ pins,p.1≠T1:=fun p hp=>Nat.ne_of_lt (Nat.lt_of_lt_of_le (Heap.lt_size (I.pin p hp).1) k1)
 exact I1.lands F.is k2 k3 hne hT1 (Nat.le_trans I.sz k1) hp1 fun h2 I2 F2=>hQ h2 T1 I2 F2 hp1
noncomputable def Cx.held (X:Cx) (a:Addr):Cx:={ X with A:=X.A.mark (some (.ref a)),calm:=false }
theorem Inv.held (I:Inv X pins σ H s) (a:Addr):Inv (X.held a) pins σ H s:=
 ⟨⟨I.ok.mod,I.ok.kind,I.ok.glob,I.ok.blt,I.ok.above,I.ok.inj,I.ok.has,I.ok.Yk,fun z=>(nomatch z),I.ok.frames,I.ok.Gs,I.ok.VA,I.ok.bs,I.ok.aI,I.ok.iH,I.ok.ib,I.ok.dw,I.ok.KO⟩,I.os,I.bare,I.base,I.loc,I.cell,I.free,I.yi,I.pin,I.jw,I.len⟩
theorem Inv.tH (ok:X.Ok) (I:Inv (X.held a) pins σ H s):Inv X pins σ H s:=⟨ok,I.os,I.bare,I.base,I.loc,I.cell,I.free,I.yi,I.pin,I.jw,I.len⟩
theorem Inv.gone {h':Heap} {t':Nat} {i:Nat} {n:Str} {v:Option Value} {m:Str→Option Value} (I:Inv X pins σ H s) (hN:X.N.Nodup) (hi:X.N[i]?=some n) (hl:∀(i:Nat) (x:Str) (v:V),X.N[i]?=some x→σ[i]?=some (some v)→GC X.env.scope x→∃u,RelV v u∧Look X.env s.heap m x u)
  (hn:h'.Ns X.env.locals (fun x=>if x=n then v else m x)) (hs:Heap.SameBut X.env.locals s.heap h'):Inv X pins (σ.set i none) H { s with heap:=h',toks:=t' }:=by
 have neL:∀b o,X.s₀.heap.get? b=some o→b≠X.env.locals:=fun b o e=>Nat.ne_of_lt (Nat.lt_of_lt_of_le (Heap.lt_size e) I.ok.above)
 have tr:∀b u,H b=some u→b≠X.env.locals:=fun b u e z=>by rw[z,I.free] at e;cases e
 have cl:∀x c,X.env.cells.lookup x=some c→c≠X.env.locals:=fun x c e=>I.KR x c e
 have hcell:∀c v,c≠X.env.locals→s.heap.IsCell c v→h'.IsCell c v:=fun c v hc ⟨o,ho,hd⟩=>⟨o,(hs.2 c hc).trans ho,hd⟩
 refine⟨I.ok,I.os,I.bare,⟨fun b o e nn hb hx=>(hs.2 b (neL b o e)).trans (I.base.keep b o e nn hb hx),fun b o e nn hb hx=>?_,I.base.free,fun b o e hx=>?_,I.base.rZ,I.base.cL,I.base.rm⟩,⟨_,hn,fun j x w e1 e2 e3=>?_⟩,fun x c e=>?_,I.free,I.yi,fun p hp=>?_,fun b u e=>?_,by rw[List.length_set];exact I.len⟩
 ·obtain⟨sl,q⟩:=I.base.slot b o e nn hb hx
  exact⟨sl,(hs.2 b (neL b o e)).trans q⟩
 ·obtain⟨o',q⟩:=I.base.there b o e hx
  exact⟨o',(hs.2 b (neL b o e)).trans q⟩
 ·have hij:i≠j:=fun z=>by
   subst z
   rw[List.getElem?_set] at e2
   split at e2
   ·split at e2<;>cases e2
   ·exact absurd rfl (by assumption)
  rw[List.getElem?_set_ne hij] at e2
  have hxn:x≠n:=fun z=>hij (mD hN hi (z▸e1))
  obtain⟨u,r,l⟩:=hl j x w e1 e2 e3
  refine⟨u,r,?_⟩
  rcases l with ⟨k,l⟩ | ⟨k,c,e,z⟩
  ·exact .inl ⟨k,by show (if x=n then v else m x)=some u;rw[if_neg hxn];exact l⟩
  ·exact .inr ⟨k,c,e,hcell c _ (cl x c e) z⟩
 ·obtain⟨w,z⟩:=I.cell x c e
  exact⟨w,hcell c w (cl x c e) z⟩
 ·obtain⟨e,q,ne,r⟩:=I.pin p hp
  exact⟨(hs.2 _ ne).trans e,q,ne,r⟩
 ·refine(I.jw b u e).tG (fun c w hc q=>(hs.2 c ?_).trans q) (fun _ q=>q) fun _ _ q=>q
  rcases hc with z | z
  ·rw[z];exact tr b u e
  ·exact tr c _ z
theorem name_goes {M:Model} {A:Around} {EE:Value→Shared→Prop} {Q:Unit→Shared→Prop} {i:Nat} {n:Str} {pos:Pos} (I:Inv X pins σ H s) (hN:X.N.Nodup) (hi:X.N[i]?=some n) (hx:X.env.scope.names.lookup n=some .local) (hlen:i < σ.length)
  (h:∀s',Inv X pins (σ.set i none) H s'→Q () s'):wpAny M A (do bindName X.env n .none;unbindBehindTheSuite X.env n pos) Q EE s:=by
 have hp:(X.env.scope.kind == .class || (X.env.scope.kind == .module && X.env.locals != X.env.globals))=false:=by rw[I.ok.kind];rfl
 have hk:X.env.kindOf n=some .local:=hx
 refine wpAny_bind (wpAny_bindName (pP I hN hi (.inl hx) (v:=.non) (u:=.none) rfl (fun s1 I1=>?_) (.inr hx)))
 obtain⟨m,hn,hl⟩:=id I1.loc
 obtain⟨u,r,l⟩:=hl i n .non hi (by rw[List.getElem?_set_self hlen]) (.inl hx)
 have hm:m n=some u:=by
  rcases l with ⟨_,l⟩ | ⟨k,_⟩
  ·exact l
  ·rw[hk] at k;rcases k with k | k<;>cases k
 unfold unbindBehindTheSuite
 refine wpAny_onRaise ?_
 unfold unbindName
 refine wpAny_bind (wpAny_point (wpAny_bind ?_));unfold deleteName
 simp only[hk,hp]
 rw[if_neg (by decide)]
 refine wpAny_bind (wpAny_nsDel_keeps hn fun h' v hn' hs'=>?_)
 rw[hm]
 simp only[if_true,Option.isSome_some,Bool.not_true,Bool.false_eq_true,if_false];refine wpAny_pure (wpAny_point (h _ ?_))
 have:=I1.gone (t':=s1.toks) hN hi hl hn' hs'
 rw[List.set_set] at this
 exact this
theorem SP.HF {M:Model} {A:Around} {EE:Value→Shared→Prop} {D:Ends} {i:Nat} {n:Str} {pos:Pos} {f:Flow} (ok:X.Ok) (hN:X.N.Nodup) (hi:X.N[i]?=some n) (hx:X.env.scope.names.lookup n=some .local)
  (h:SP (X.held a) pins { nx:=fun σ H=>D.nx (σ.set i none) H,rt:=D.rt,bk:=fun σ H=>D.bk (σ.set i none) H,ct:=fun σ H=>D.ct (σ.set i none) H } f s) :
  wpAny M A (do bindName X.env n .none;unbindBehindTheSuite X.env n pos) (fun _ s'=>SP X pins D f s') EE s:=by
 have hlen:∀{σ':St} {H':Hp} {s':Shared},Inv X pins σ' H' s'→i < σ'.length:=fun J=>by rw[J.len];exact(List.getElem?_eq_some_iff.mp hi).1
 cases f with
 | next=>
  obtain⟨σ',H',J,q⟩:=h
  have J:=J.tH ok
  exact name_goes J hN hi hx (hlen J) fun s' J'=>⟨_,H',J',q⟩
 | ret u=>
  obtain⟨v,σ',H',J,r,q⟩:=h
  have J:=J.tH ok
  exact name_goes J hN hi hx (hlen J) fun s' J'=>⟨v,_,H',J',r,q⟩
 | brk=>
  obtain⟨σ',H',J,q⟩:=h
  have J:=J.tH ok
  exact name_goes J hN hi hx (hlen J) fun s' J'=>⟨_,H',J',q⟩
 | cont=>
  obtain⟨σ',H',J,q⟩:=h
  have J:=J.tH ok
  exact name_goes J hN hi hx (hlen J) fun s' J'=>⟨_,H',J',q⟩
noncomputable def GK (K:PySem.W.Frag) (Eh:XK) (P:Addr) (i:Nat) (te:TE) (th:Addr→TS):TS:=fun D σ H=>(te σ H fun _ H1=>D.nx σ H1)∧∀C a H',Eh (.ref C) (some a) H'→PySem.W.exmOne K (.ref C) (.ref P)=some true∧
 th a { nx:=fun σ H=>D.nx (σ.set i none) H,rt:=D.rt,bk:=fun σ H=>D.bk (σ.set i none) H,ct:=fun σ H=>D.ct (σ.set i none) H } (σ.set i (some (.ref a))) H'
theorem XI {P:Addr} {x n:Str} {i:Nat} {e:Expr} {te:TE} {th:Addr→TS} {b0:Stmt} {suite:List Stmt} {p1 pc ph pos:Pos} (hxe:∀e s,X.xe e s→False) (hst:X.stack=X.env :: X.outer) (hf:X.env.frame=some X.env.locals)
  (hN:X.N.Nodup) (hi:X.N[i]?=some n) (hx:X.env.scope.names.lookup n=some .local) (hg:Gl X x) (hm:X.mg x=some (.ref P)) (he:Hw X Eh e te) (hs:∀a,ij (X.held a) (b0 :: suite) (th a))
  (hdb:(x == ("__debug__" : Str))=false:=by decide) (hsw:swapsWith e none p1.line X.env=pure false:=by rfl) :
  PS X (.Try [.Expr e p1] [.ExceptHandler (some (.Name x pc)) (some n) (b0 :: suite) ph] [] [] pos) (GK X.K Eh P i te th):=by
 intro pins s σ H D I ⟨h1,h2⟩
 refine wpAny_Try_except ?_
 refine wpAny_execs_cons (wpAny_Expr_any (wpAny_mono (he pins s σ H _ I h1) (fun u s1 ⟨v,H1,I1,r1,q1⟩=>wpAny_execs_nil (wpAny_execs_nil ⟨σ,H1,I1,q1⟩)) fun ex s1 hfl=>?_) I.quiet hsw)
 obtain⟨a,C,d,T,H1,rfl,I1,F,hp,hE⟩:=hfl
 obtain⟨hex,hth⟩:=h2 C a H1 hE
 refine I1.VU hst hf F hp fun h2' T2 I2 F2 hp2=>?_
 have J2:=I2.held a
 refine wpAny_handleBy_cons (codeAny_handlers_test (gb J2 hg hm ?_ hdb)) (by intro q;cases q)
 obtain⟨vs,sl,hg2,_⟩:=id F2.at'
 have LT:PySem.W.Looks (model X.prog X.w) h2' (typeOf (.ref a)) (.ref C):=(PySem.W.Looks.ld hg2).andThen .now
 refine(PySem.W.exm_one I2.gB LT hex).here ?_
 show codeAny _ _ _ _ _
 refine codeAny_handlers_suite_as ?_;refine I2.lands F2.is F2.at' F2.tr F2.ne F2.free F2.new hp2 fun h3 I3 F3=>?_
 refine pP I3 hN hi (.inl hx) (v:=.ref a) (u:=.ref a) rfl (fun s4 I4=>?_) (.inr hx)
 refine wpAny_mono (hs a pins s4 _ H1 _ (I4.held a) hth) (fun f s5 hsp=>?_) (fun ex s5 hz=>(hxe ex s5 hz).elim)
 exact SP.HF I4.ok hN hi hx hsp
end
end L2
namespace L2
open PyProof.Rows PySem PySem.Spec
noncomputable def VF (H:Hp) (a C:Addr) (fs:List (Str × V)):Prop:=(fs=[]∧H a=some (xO a C none))∨∃dx,H a=some (xO a C (some dx))∧H dx=some (xD dx fs)
theorem VF.look {P:Program} {w:World} {H:Hp} {h:Heap} {a C:Addr} {fs:List (Str × V)} (x:hU P w H h) (q:VF H a C fs):∃ox od,PySem.W.InstAt h a ox C od∧∀f v,fs.lookup f=some v→∃o u,od=some o∧PySem.W.lookIn f o=some (some u)∧RelV v u:=by
 rcases q with ⟨rfl,q⟩ | ⟨dx,q1,q2⟩
 ·obtain⟨tb,vs,sl,he,_⟩:=VX x q
  exact⟨_,none,⟨he,rfl,rfl,trivial⟩,fun f v e=>by cases e⟩
 ·obtain⟨tb,vs,sl,he,_⟩:=VX x q1
  obtain⟨mA,n1,r1,_⟩:=VZ x q2
  obtain⟨od,ho,hl⟩:=dm n1
  refine⟨_,some od,⟨he,rfl,rfl,ho⟩,fun f v e=>?_⟩
  have r:=r1 f
  rw[e] at r
  cases hm:mA f with
  | none=>rw[hm] at r;exact False.elim r
  | some u=>rw[hm] at r;exact⟨od,u,rfl,by rw[hl,hm],r⟩
section
variable {prog:Program} {w:World} {A:Around} {E:Value→Shared→Prop} {s:Shared} {K:PySem.W.Frag} {x C:Addr} {ox:Obj} {od:Option Obj} {name:Str} {tk:Tok} {v:Value} {R:Result→Shared→Prop}
theorem KJ (X:K.In s.heap) (I:PySem.W.InstAt s.heap x ox C od) (hm:PySem.W.mroIn K C (.type "BaseException")=some true):PySem.W.Looks (model prog w) s.heap (isInstance (.ref x) (.type "BaseException")) true:=I.type.andThen (PySem.W.looks_mroIn X hm)
theorem oA (X : K.In s.heap) (I : PySem.W.InstAt s.heap x ox C od) (hm : PySem.W.mroIn K C (.type "BaseException") = some true)
    (h : wpAny (model prog w) A.in1 (Builtin.«object.__getattribute__» ⟨[.ref x, .str name tk], []⟩) (fun f s' => ∃ v, f = .done (.ret v) ∧ R (.ok (.ret v)) s') (fun _ _ => False) s) : codeAny (model prog w) A (.call (.builtin "BaseException.__getattribute__") ⟨[.ref x, .str name tk], []⟩) R s := by
  have fit := PySem.F.args_bexc_ga (.ref x) (.str name tk)
  have sub := KJ (prog := prog) (w := w) X I hm
  refine codeAny_call_builtin PySem.F.attr_ValueError.ga.plain PySem.F.entry_bexc_ga (PySem.W.check_slot (i := "BaseException.__getattribute__") (owner := "BaseException") (n := "__getattribute__") (by decide +kernel) (by decide +kernel) sub fit (wpAny_mono h (fun f s' z => ?_) fun _ _ z => z.elim))
  obtain ⟨v, rfl, z⟩ := z
  exact z
theorem J0 {fill expr:Bool} {Q:Value→Shared→Prop} (X:K.In s.heap) (I:PySem.W.InstAt s.heap x ox C od) (hga:PySem.W.findIn K (.ref C) "__getattribute__" = some (some (.builtin "BaseException.__getattribute__"))) (hgn:PySem.W.findIn K (.ref C) "__getattr__" = some none) (hm:PySem.W.mroIn K C (.type "BaseException")=some true)
  (h:codeAny (model prog w) A (.call (.builtin "BaseException.__getattribute__") ⟨[.ref x,.str name tk],[]⟩) (fun r s'=>match r with | .ok (.ret v)=>wpAny (model prog w) A (handedOut v) Q E s' | _=>False) s) :
  wpAny (model prog w) A (getAttrBy (.ref x) (.str name tk) fill expr) Q E s:=by
 unfold getAttrBy
 refine wpAny_holding (wpAny_bind (I.type.here (wpAny_bind ((PySem.W.looks_findIn X hga).here ?_))))
 have hne:(Value.builtin "BaseException.__getattribute__" == Value.builtin "object.__getattribute__")=false:=by decide +kernel
 dsimp only
 rw[hne,Bool.and_false,if_neg Bool.false_ne_true]
 unfold getAttrByItsOwn hookBefore
 rw[show onTheHeap (Value.ref C)=true from rfl,if_pos rfl]
 refine wpAny_bind ((PySem.W.looks_findIn X hgn).here (wpAny_bind (wpAny_attempt (wpAny_holding ?_))))
 unfold callGetattribute
 rw[if_neg (by cases expr<;>decide +kernel)]
 unfold boundAndCalled
 refine wpAny_bind (wpAny_of_eq (PySem.F.attr_ValueError.ga.bind (.ref x)) ?_)
 refine wpAny_call (codeAny_mono h fun r s' z=>?_)
 rcases r with e | (u | _ | _ | _)<;>first | exact z | exact z.elim
theorem eu {fill expr : Bool} {Q : Value → Shared → Prop} (X : K.In s.heap) (I : PySem.W.InstAt s.heap x ox C od) (hga : PySem.W.findIn K (.ref C) "__getattribute__" = some (some (.builtin "BaseException.__getattribute__"))) (hgn : PySem.W.findIn K (.ref C) "__getattr__" = some none) (hm : PySem.W.mroIn K C (.type "BaseException") = some true)
    (hf : PySem.W.findObj K C od name = some (.value v)) (hh : PySem.W.handedIn v = true) (h : Q v s) : wpAny (model prog w) A (getAttrBy (.ref x) (.str name tk) fill expr) Q E s := by
  refine J0 X I hga hgn hm (oA X I hm ?_)
  obtain ⟨hp, g, d, t, os⟩ := s
  unfold Builtin.«object.__getattribute__»; refine wpAny_bind (wpAny_pure ?_)
  refine wpAny_bind (wpAny_pure (wpAny_bind ((I.type (M := model prog w)).at (wpAny_bind ((PySem.W.looks_find (M := model prog w) X I hf).at ?_)))))
  refine wpAny_pure ⟨_, rfl, (?_ : wpAny _ _ (handedOut v) _ _ _)⟩; rw [PySem.W.handedOut_of hh]
  exact wpAny_pure h
theorem eh {Q : Option Value → Shared → Prop} (X : K.In s.heap) (I : PySem.W.InstAt s.heap x ox C od) (hga : PySem.W.findIn K (.ref C) "__getattribute__" = some (some (.builtin "BaseException.__getattribute__"))) (hgn : PySem.W.findIn K (.ref C) "__getattr__" = some none) (hm : PySem.W.mroIn K C (.type "BaseException") = some true)
    (hf : PySem.W.findObj K C od "__class__" = some (.bind (.builtin "getset_descriptor.__get__") (.builtin "object.__class__"))) (ho : PySem.W.mroIn K C (.type "object") = some true) (h : Q (some (.ref C)) { s with toks := s.toks + 1 }) : wpAny (model prog w) A (getAttr? (.ref x) "__class__") Q E s := by
  unfold getAttr? getAttrBy?
  refine wpAny_bind (wpAny_mkText (wpAny_bind (wpAny_attempt ?_)))
  refine J0 (s := { s with toks := s.toks + 1 }) X I hga hgn hm (oA (s := { s with toks := s.toks + 1 }) X I hm ?_)
  obtain ⟨hp, g, d, t, os⟩ := s
  unfold Builtin.«object.__getattribute__»; refine wpAny_bind (wpAny_pure ?_)
  refine wpAny_bind (wpAny_pure (wpAny_bind ((I.type (M := model prog w)).at (wpAny_bind ((PySem.W.looks_find (M := model prog w) X I hf).at ?_)))))
  dsimp only
  show wpAny _ _ (holding [Value.builtin "object.__class__"] (call (.builtin "getset_descriptor.__get__") [.builtin "object.__class__", .ref x, .ref C]) >>= ret) _ _ _
  refine wpAny_bind (wpAny_holding (wpAny_call (PySem.W.class_get (s := ⟨hp, g, d, t + 1, os⟩) (ox := ox) (od := od) X I ho ?_)))
  exact wpAny_pure ⟨_, rfl, PySem.W.handed_on rfl (wpAny_pure h)⟩
end
structure GU (K:PySem.W.Frag) (C:Addr):Prop where
 ga:PySem.W.findIn K (.ref C) "__getattribute__" = some (some (.builtin "BaseException.__getattribute__"))
 gn:PySem.W.findIn K (.ref C) "__getattr__" = some none
 bx:PySem.W.mroIn K C (.type "BaseException")=some true
 hd:PySem.W.hasDictIn K C=true
 ha:PySem.W.findIn K (.ref C) "__class__" = some (some (.builtin "object.__class__"))
 hn:PySem.W.specialIn K (.builtin "object.__class__") "__get__" = some (some (.builtin "getset_descriptor.__get__"))
 GN:PySem.W.takesIn K (.builtin "object.__class__")=some true
 hm:PySem.W.mroIn K C (.type "object")=some true
theorem QW {K:PySem.W.Frag} {x D:Addr} {ox:Obj} {od:Option Obj} (ty:GU K D):PySem.W.KitX K (.ref x) (.ref D) (fun h=>PySem.W.InstAt h x ox D od):=by
 have hcl:∃c' d' cd' sl',K.lookup D=some ⟨c',d',.cls cd',sl'⟩:=by
  obtain⟨cdD,hcD,_⟩:=PySem.W.any_some ty.hd
  unfold PySem.W.clsIn at hcD
  split at hcD
  ·rename_i c' d' cd' sl' ho
   exact⟨c',d',cd',sl',ho⟩
  ·cases hcD
 have hf:PySem.W.findObj K D od "__class__" = some (.bind (.builtin "getset_descriptor.__get__") (.builtin "object.__class__")):=by
  obtain⟨cd,hc,_⟩:=PySem.W.any_some ty.hd
  unfold PySem.W.findObj
  rw[hc,Option.bind_some,ty.ha,Option.bind_some]
  simp [ty.hn,ty.GN]
 refine⟨fun _ _ _ I=>I.type,fun M h X _=>?_,fun h tp dd its n sl X htp=>?_,fun {prog w A E Q s} X I k=>?_⟩
 ·obtain⟨c',d',cd',sl',ho⟩:=hcl
  intro A' Q' E' s' k q
  unfold isType loadHead;exact wpAny_bind (wpAny_loadPart (k _ _ (X _ _ ho)) (wpAny_pure q))
 ·obtain⟨c',d',cd',sl',ho⟩:=hcl
  refine Bool.eq_false_iff.mpr fun q=>?_;have e:D=tp:=Value.ref.inj (beq_iff_eq.mp q)
  subst e;have z:=(X _ _ ho).symm.trans htp
  cases z
 ·exact eh X I ty.ga ty.gn ty.bx hf ty.hm k
section
variable {X:Cx} {K:PySem.W.Frag}
theorem jo (hK:X.K=K):kA X (.builtin "isinstance") (fun xs H Q=>∃a C fs c b,xs=[.ref a,c]∧((∃n,c=.ty n)∨∃a,c=.ref a)∧VF H a C fs∧GU K C∧PySem.W.kitOne K (.ref C) (Qp c)=some b∧Q (.bl b) H):=by
 subst hK
 intro pins s σ H xs us Q I r h
 obtain⟨a,C,fs,c,b,rfl,hc,hx,ty,hk,q⟩:=h
 obtain⟨u,u',rfl,rx,rc⟩:=vals2 r
 have e:u'=Qp c:=by
  rcases hc with ⟨n,rfl⟩ | ⟨a,rfl⟩
  ·exact rc
  ·exact rc
 subst e
 cases (show u=Value.ref a from rx)
 obtain⟨ox,od,J,_⟩:=hx.look I.jw
 exact PySem.W.kia_one (QW ty) I.gB J hk (fun z=>nomatch z) fun tk=>⟨.bl b,H,I.tok _,rfl,q⟩
noncomputable def GW (K:PySem.W.Frag) (ta:TE) (f:Str):TE:=fun σ H Q=>ta σ H fun x H1=>∃a C fs v,x=.ref a∧VF H1 a C fs∧GU K C∧qH K C f∧fs.lookup f=some v∧Q v H1
theorem sL {e:Expr} {f:Str} {ta:TE} {pos:Pos} (hK:X.K=K) (he:PE X e ta) (hb:attributeBase e f X.env (eval e X.env)=eval e X.env):PE X (.Attribute e f pos) (GW K ta f):=by
 subst hK
 intro pins s σ H Q I h
 refine eK hb (xy (he pins s σ H _ I h) fun u s1 ⟨x,H1,I1,rx,a,C,fs,v,ex,hx,ty,n,l,q⟩=>?_)
 subst ex
 obtain rfl:u=Value.ref a:=rx
 obtain⟨ox,od,J,hl⟩:=hx.look I1.jw
 obtain⟨o,u',rfl,lk,ru⟩:=hl f v l
 exact wpAny_bind (wpAny_mkText (eu (s:={ s1 with toks:=s1.toks + 1 }) I1.gB J ty.ga ty.gn ty.bx (PySem.W.findObj_own ty.hd n rfl lk) (rP ru) ⟨v,H1,I1.tok _,ru,q⟩))
end
end L2
namespace L2
open PyProof.Rows PySem PySem.Spec
structure Yc (k:Nat) (A:Around):Prop where
 dp:A.depth + 3 * k + 5 < recursionLimit
 un:A.units + 16 * k + 200 < cLine
structure BP (P:Program) (w:World) (K:PySem.W.Frag) (mg:Str→Option Value) (base:Heap) (CX:u3) (k:Nat) (f:Addr) (fd:FuncData) (ps:List Str) (sp:Sp):Prop where
 len:∀vs H Q E,sp vs H Q E→vs.length=ps.length
 run:∀(A:Around) (outer:List Env) (s:Shared) (H:Hp) (args:Args) (us:List Value) (vs:List V) (Q:VK) (E:XK),Yc k A→tR P w K mg base A outer s H→BindsTo s fd args (ps.zip us)→Vals vs us→sp vs H Q E→codeAny (model P w) A (.call (.ref f) args) (CR CX outer P w H s Q E) s
section
variable {P:Program} {w:World} {K:PySem.W.Frag} {mg:Str→Option Value} {base:Heap} {CX:u3}
noncomputable def Cx.any (X:Cx):Cx:={ X with calm:=false,xe:=fun _ _=>False }
section
variable {X:Cx} {pins:List (Addr × Obj)} {σ:St} {H:Hp} {s:Shared} {k:Nat} {f:Addr} {fd:FuncData} {ps:List Str} {sp:Sp} {dvs:List V} {ds:List Value} {x:Str} {p pos:Pos} {e:Expr} {es:List Expr} {t:TA}
end
end
end L2
namespace L2
open PyProof.Rows PySem PySem.Spec
section
variable {prog:Program} {w:World} {A:Around} {E:Value→Shared→Prop} {s:Shared} {a e C:Addr} {d:Option Addr} {tb:Value} {oe:Obj} {vs:Array Value}
end
end L2
namespace L2
open PyProof.Rows PySem PySem.Spec
structure Yu (aa:Addr) (P:Program) (w:World) (K:PySem.W.Frag) (tg:Expr) (J:It) (fp:List Addr) (it:Addr) (tn:Nat→Heap→Prop):Prop where
 mem:it∈fp
 obj:∀i h,tn i h→∀b∈fp,∃o,h.get? b=some o∧∀v,o.data≠.cell v
 keep:∀i h h',tn i h→(∀b∈fp,∀o,h.get? b=some o→h'.get? b=some o)→tn i h'
 item:∀(X:Cx),X.prog=P→X.w=w→X.K=K→X.A.handled=some (.ref aa)→∀(i:Nat) (pins:List (Addr × Obj)) (s:Shared) (σ:St) (H:Hp) (E:Value→Shared→Prop),Inv X pins σ H s→(∀b∈fp,gc X pins H b)→tn i s.heap→J.go i H→
  wpAny (model P w) X.A (pyNext (.ref it)) (fun r s1=>∃u,r=some u∧wpAny (model P w) X.A (letOwnedTupleGo tg (.ref it) u) (fun _ s2=>∃x H',Inv X pins σ H' s2∧RelV x u∧J.VY i H x H'∧tn (i + 1) s2.heap∧∀b∈fp,H' b=none) E s1) E s
 done:∀(X:Cx),X.prog=P→X.w=w→X.K=K→X.A.handled=some (.ref aa)→∀(i:Nat) (pins:List (Addr × Obj)) (s:Shared) (σ:St) (H:Hp) (E:Value→Shared→Prop),Inv X pins σ H s→(∀b∈fp,gc X pins H b)→tn i s.heap→J.stop i H→wpAny (model P w) X.A (pyNext (.ref it)) (fun r s1=>r=none∧Inv X pins σ H s1) E s
 self:∀(A:Around) (i:Nat) (s:Shared) (Q:Value→Shared→Prop) (E:Value→Shared→Prop),tn i s.heap→Q (.ref it) s→wpAny (model P w) A (pyIter (.ref it)) Q E s
noncomputable def Hj (aa:Addr) (lo:Int) (n:Nat):It:=⟨fun i _=>i < n,fun i H x H'=>H'=H∧x=.int (lo + i),fun i H=>n≤i∧∃C d,H aa=some (xO aa C d)⟩
section
variable {X:Cx}
noncomputable def Pw (X:Cx) (aa:Addr) (tg iter:Expr) (wi:TI):Prop:=∀(pins:List (Addr × Obj)) (s:Shared) (σ:St) (H:Hp) (R:It→Hp→Prop),Inv X pins σ H s→wi σ H R→
 wpAny (model X.prog X.w) X.A (eval iter X.env) (fun v s1=>wpAny (model X.prog X.w) X.A (pyIter v) (fun itv s2=>∃(it:Addr) (fp:List Addr) (tn:Nat→Heap→Prop) (J:It) (H':Hp),itv=.ref it∧Inv X pins σ H' s2∧Yu aa X.prog X.w X.K tg J fp it tn∧tn 0 s2.heap∧(∀b∈fp,gc X pins H' b)∧R J H') X.xe s1) X.xe s
noncomputable def HM (aa:Addr) (ta:TA):TI:=fun σ H R=>ta σ H fun vs H1=>∃j:Int,vs=[.int j]∧-(2 ^ 62)≤j∧j < 2 ^ 62∧R (Hj aa 0 j.toNat) H1
end
end L2
namespace L2
open PySem PySem.Spec PyProof.Rows
section
variable {κ:Type} [DecidableEq κ]
noncomputable def bU (kvs:List (κ × V)) (k:κ):Option V:=(kvs.find? fun kv=>decide (kv.1=k)).map (·.2)
noncomputable def putK (kvs:List (κ × V)) (k:κ) (v:V):List (κ × V):=
 if (kvs.any fun kv=>decide (kv.1=k))=true then kvs.map (fun kv=>if kv.1=k then (kv.1,v) else kv) else kvs ++ [(k,v)]
noncomputable def Qs (kvs:List (κ × V)) (k:κ):List (κ × V):=kvs.filter fun kv=>decide (kv.1≠k)
theorem uO {p:κ × V} {r:List (κ × V)} {k:κ} (e:p.1=k):bU (p :: r) k=some p.2:=by simp [bU,List.find?_cons,e]
theorem uN {p:κ × V} {r:List (κ × V)} {k:κ} (e:¬p.1=k):bU (p :: r) k=bU r k:=by simp [bU,List.find?_cons,e]
theorem m5 (k:κ):∀kvs:List (κ × V),(kvs.any fun kv=>decide (kv.1=k))=(bU kvs k).isSome
 | []=>rfl
 | p :: r=>by
  rw[List.any_cons]
  by_cases e:p.1=k
  ·simp only[uO e,decide_eq_true e,Bool.true_or,Option.isSome_some]
  ·rw[uN e,decide_eq_false e,Bool.false_or];exact m5 k r
theorem dD (kvs:List (κ × V)) (k:κ) (v:V):(putK kvs k v).length≤kvs.length + 1:=by
 unfold putK
 split
 ·rw[List.length_map];omega
 ·rw[List.length_append,List.length_cons,List.length_nil];omega
theorem Jw {kvs:List (κ × V)} {k:κ} (v:V) (h:bU kvs k=none):putK kvs k v=kvs ++ [(k,v)]:=by
 unfold putK
 rw[m5,h]
 exact if_neg (by decide)
theorem gW.dg {o:Option V} {u:Option Value} (r:gW o u):o.isSome=u.isSome:=by
 cases o with
 | none=>cases u with
  | none=>rfl
  | some _=>exact(show False from r).elim
 | some _=>cases u with
  | none=>exact(show False from r).elim
  | some _=>rfl
theorem KV.val {kvs:List (κ × V)} {vs:List (κ × Value)} (r:KV kvs vs) (k:κ):gW (bU kvs k) (valueAt vs k):=by
 unfold KV at r
 induction r with
 | nil=>exact True.intro
 | @cons p q ps qs h t ih=>
  obtain⟨h1,h2⟩:=h
  by_cases e:p.1=k
  ·have e':q.1=k:=h1.symm.trans e
   have b:valueAt (q :: qs) k=some q.2:=by simp [valueAt,List.find?_cons,e']
   rw[uO e,b];exact h2
  ·have e':¬q.1=k:=fun z=>e (h1.trans z)
   have b:valueAt (q :: qs) k=valueAt qs k:=by simp [valueAt,List.find?_cons,e']
   rw[uN e,b];exact ih
theorem KV.any {kvs:List (κ × V)} {vs:List (κ × Value)} (r:KV kvs vs) (k:κ):(kvs.any fun kv=>decide (kv.1=k))=vs.any fun kv=>decide (kv.1=k):=by
 unfold KV at r
 induction r with
 | nil=>rfl
 | cons h t ih=>rw[List.any_cons,List.any_cons,ih,h.1]
theorem KV.WM {kvs:List (κ × V)} {vs:List (κ × Value)} (r:KV kvs vs) (k:κ) {y:V} {u:Value} (ry:RelV y u) :
  KV (kvs.map fun kv=>if kv.1=k then (kv.1,y) else kv) (vs.map fun kv=>if kv.1=k then (kv.1,u) else kv):=by
 unfold KV at r ⊢
 induction r with
 | nil=>exact .nil
 | @cons p q ps qs h t ih=>
  rw[List.map_cons,List.map_cons]
  refine .cons ?_ ih
  obtain⟨h1,h2⟩:=h
  by_cases e:p.1=k
  ·rw[if_pos e,if_pos (h1.symm.trans e)];exact⟨h1,ry⟩
  ·rw[if_neg e,if_neg (fun z=>e (h1.trans z))];exact⟨h1,h2⟩
theorem KV.put {kvs:List (κ × V)} {vs:List (κ × Value)} (r:KV kvs vs) (k:κ) {y:V} {u:Value} (ry:RelV y u):KV (putK kvs k y) (stored vs k u):=by
 unfold putK stored
 rw[r.any k]
 by_cases e:(vs.any fun kv=>decide (kv.1=k))=true
 ·rw[if_pos e,if_pos e];exact r.WM k ry
 ·rw[if_neg e,if_neg e];exact Paired.snoc r ⟨rfl,ry⟩
theorem KV.length {kvs:List (κ × V)} {vs:List (κ × Value)} (r:KV kvs vs):kvs.length=vs.length:=Paired.length r
end
theorem QV {P:Program} {w:World} {k:Key} {u:Value} (r:RelV (kV k) u):(kZ P w).is k u=true:=by
 cases k with
 | inl i=>obtain⟨t,e⟩:=(show ∃t,u=Value.int i t from r);subst e;exact nS P w i t
 | inr x=>obtain⟨t,e⟩:=(show ∃t,u=Value.str x t from r);subst e;exact nT P w x t
theorem rD {P:Program} {w:World}:∀{ks:List Key} {us:List Value},Vals (ks.map kV) us→ItemsAre (kZ P w) ks us
 | [],_,r=>by rw[List.map_nil] at r;cases r;exact .nil
 | k :: ks,_,r=>by
  rw[List.map_cons] at r
  cases r with
  | cons h t=>exact .cons (QV h) (rD t)
noncomputable abbrev KT (H:Hp):List (List Key × V)→List (List Key × Addr × Value)→Prop:=Paired fun p q=>p.1=q.1∧H q.2.1=some (.tup (p.1.map kV))∧RelV p.2 q.2.2
theorem KT.val {H:Hp} {kvs:List (List Key × V)} {xs:List (List Key × Addr × Value)} (r:KT H kvs xs) (k:List Key):gW (bU kvs k) ((atKey xs k).map (·.2)):=by
 induction r with
 | nil=>exact True.intro
 | @cons p q ps qs h t ih=>
  obtain⟨h1,_,h2⟩:=h
  by_cases e:p.1=k
  ·have e':q.1=k:=h1.symm.trans e
   have b:atKey (q :: qs) k=some q.2:=by simp [atKey,List.find?_cons,e']
   rw[uO e,b];exact h2
  ·have e':¬q.1=k:=fun z=>e (h1.trans z)
   have b:atKey (q :: qs) k=atKey qs k:=by simp [atKey,List.find?_cons,e']
   rw[uN e,b];exact ih
theorem KT.WM {H:Hp} {kvs:List (List Key × V)} {xs:List (List Key × Addr × Value)} (r:KT H kvs xs) (k:List Key) {y:V} {u:Value} (ry:RelV y u) :
  KT H (kvs.map fun kv=>if kv.1=k then (kv.1,y) else kv) (xs.map (putAt k u)):=by
 induction r with
 | nil=>exact .nil
 | @cons p q ps qs h t ih=>
  rw[List.map_cons,List.map_cons]
  refine .cons ?_ ih
  obtain⟨h1,h2,h3⟩:=h
  unfold putAt
  by_cases e:p.1=k
  ·rw[if_pos e,if_pos (h1.symm.trans e)];exact⟨h1,h2,ry⟩
  ·rw[if_neg e,if_neg (fun z=>e (h1.trans z))];exact⟨h1,h2,h3⟩
theorem KT.put {H:Hp} {kvs:List (List Key × V)} {xs:List (List Key × Addr × Value)} (r:KT H kvs xs) (k:List Key) {b:Addr} {y:V} {u:Value} (hb:H b=some (.tup (k.map kV))) (ry:RelV y u) :
  KT H (putK kvs k y) (storedH xs k b u):=by
 have e:(kvs.any fun kv=>decide (kv.1=k))=(atKey xs k).isSome:=by
  rw[m5,(r.val k).dg,Option.isSome_map]
 unfold putK storedH
 rw[e]
 by_cases q:(atKey xs k).isSome=true
 ·rw[if_pos q,if_pos q];exact r.WM k ry
 ·rw[if_neg q,if_neg q];exact Paired.snoc r ⟨rfl,hb,ry⟩
theorem KT.keeps {H H':Hp} {kvs:List (List Key × V)} {xs:List (List Key × Addr × Value)} (r:KT H kvs xs) (ht:∀b ys,H b=some (.tup ys)→H' b=some (.tup ys)):KT H' kvs xs:=
 Paired.QR r fun _ _ z=>⟨z.1,ht _ _ z.2.1,z.2.2⟩
section
variable {P:Program} {w:World} {H:Hp} {h:Heap} {a:Addr}
theorem Vu {u:HO} (ok:hU P w H h) (e:Rd H a u):xx P w H h a u:=e.ok ok
theorem KL {kvs:List (Key × V)} (ok:hU P w H h) (e:Rd H a (.dK kvs)):kvs.length≤sizeLine∧(a == sysModules)=false∧∃vs,KV kvs vs∧h.DictOf (kZ P w) a vs:=
 show xx P w H h a (.dK kvs) from Vu ok e
theorem YQ {kvs:List (Key × V)} (ok:hU P w H h) (e:H a=some (.dK kvs)):kvs.length≤sizeLine∧(a == sysModules)=false∧∃vs,KV kvs vs∧h.DictOf (kZ P w) a vs:=KL ok (.inl e)
theorem ia {ks:List Key} (ok:hU P w H h) (e:H a=some (.tup (ks.map kV))):(tupleKind (kZ P w)).is h ks a:=by
 obtain⟨_,its,r,o,h1,h2,n,h3⟩:=(show xx P w H h a (.tup (ks.map kV)) from ok a _ e)
 exact⟨o,its.toArray,n,h1,h2,h3,by simpa using rD r⟩
theorem KS {kvs:List (List Key × V)} (ok:hU P w H h) (e:Rd H a (.dT kvs)):kvs.length≤sizeLine∧(a == sysModules)=false∧
  ∃xs,KT H kvs xs∧h.DictOfH (tupleKind (kZ P w)) a xs:=by
 obtain⟨z,y,xs,r,o,es,ep,h1,h2,h3,h4,h5⟩:=(show xx P w H h a (.dT kvs) from Vu ok e)
 refine⟨z,y,xs,r,o,es,ep,h1,h2,h3,h4,fun x hx=>?_,h5⟩
 have all:∀{l:List (List Key × V)} {m:List (List Key × Addr × Value)},KT H l m→∀x∈m,(tupleKind (kZ P w)).is h x.1 x.2.1:=by
  intro l m q
  induction q with
  | nil=>intro x hx;exact nomatch hx
  | @cons p q ps qs hq t ih=>
   intro x hx
   rcases List.mem_cons.mp hx with e | hx
   ·subst e
    exact ia ok (by rw[←hq.1];exact hq.2.1)
   ·exact ih x hx
 exact all r x hx
theorem YX {kvs:List (List Key × V)} (ok:hU P w H h) (e:H a=some (.dT kvs)):kvs.length≤sizeLine∧(a == sysModules)=false∧
  ∃xs,KT H kvs xs∧h.DictOfH (tupleKind (kZ P w)) a xs:=KS ok (.inl e)
end
noncomputable def cF (H:Hp) (a:Addr) (y:V) (r:Option V):Prop:=
 (∃kvs k,Rd H a (.dK kvs)∧y=kV k∧r=bU kvs k)∨∃kvs k b,Rd H a (.dT kvs)∧y=.ref b∧H b=some (.tup (k.map kV))∧r=bU kvs k
noncomputable def aL (H:Hp) (a:Addr) (y v:V) (H':Hp):Prop:=
 (∃kvs k,H a=some (.dK kvs)∧y=kV k∧kvs.length < sizeLine∧H'=upd H a (.dK (putK kvs k v)))∨
 ∃kvs k b,H a=some (.dT kvs)∧y=.ref b∧H b=some (.tup (k.map kV))∧kvs.length < sizeLine∧H'=upd H a (.dT (putK kvs k v))
theorem cF.k {H:Hp} {a:Addr} {kvs:List (Key × V)} {k:Key} (e:H a=some (.dK kvs)):cF H a (kV k) (bU kvs k):=.inl ⟨kvs,k,.inl e,rfl,rfl⟩
theorem aL.k {H:Hp} {a:Addr} {kvs:List (Key × V)} {k:Key} {v:V} (e:H a=some (.dK kvs)) (hl:kvs.length < sizeLine):aL H a (kV k) v (upd H a (.dK (putK kvs k v))):=.inl ⟨kvs,k,e,rfl,hl,rfl⟩
section
variable {X:Cx} {pins:List (Addr × Obj)} {σ:St} {H:Hp} {s:Shared} {a:Addr} {y v:V} {u r:Value} {o:Option V} {A:Around} {E:Value→Shared→Prop}
theorem Inv.big (I:Inv X pins σ H s):sysModules < s.heap.objs.size:=by
 have h:mainGlobals < s.heap.objs.size:=(I.mod.glob.keeps I.bk).lt
 exact Nat.lt_trans (by decide) h
theorem HG {Q:Value→Shared→Prop} (hu:A.units + 1 < cLine) (I:Inv X pins σ H s) (g:cF H a y o) (ry:RelV y u) (h:∀s',Inv X pins σ H s'→Q (.bool o.isSome) s') :
  wpAny (model X.prog X.w) A (compareOp .In u (.ref a)) Q E s:=by
 rcases g with ⟨kvs,k,e,ey,l⟩ | ⟨kvs,k,b,e,ey,eb,l⟩
 ·subst ey
  obtain⟨z,hd,vs,rel,dd⟩:=KL I.jw e
  refine wpAny_in_of (QV ry) hd dd.mapOf ?_
  rw[←(rel.val k).dg,←l]
  exact h _ (I.tok _)
 ·subst ey
  cases (show u=Value.ref b from ry)
  obtain⟨z,hd,xs,rel,dd⟩:=KS I.jw e
  refine wpAny_in_heap (tupleKind_room_in1 hu) (ia I.jw eb) hd dd ?_
  have q:=(rel.val k).dg
  rw[Option.isSome_map] at q
  rw[←q,←l]
  exact h _ (I.tok _)
theorem eU {h':Heap} {t':Nat} {ob:HO} (I:Inv X pins σ H s) (mu:Yp (H a)) (hs:Heap.SameBut a s.heap h') (he:∃q,h'.get? a=some q) (new:xx X.prog X.w (upd H a ob) h' a ob) :
  Inv X pins σ (upd H a ob) { s with heap:=h',toks:=t' }:=
 I.write (x:=a) (e:=a) mu (.inl rfl) (fun b q hb z=>(hs.2 b hb).trans z) he new
theorem VI {P:Program} {w:World} {H':Hp} {h':Heap} {kvs:List (Key × V)} {vs:List (Key × Value)} (z:kvs.length≤sizeLine) (hd:(a == sysModules)=false) (rel:KV kvs vs) (dd:h'.DictOf (kZ P w) a vs) :
  xx P w H' h' a (.dK kvs):=⟨z,hd,vs,rel,dd⟩
theorem Zq {H':Hp} {Q:Unit→Shared→Prop} (hu:A.units + 1 < cLine) (I:Inv X pins σ H s) (g:aL H a y v H') (ry:RelV y u) (rv:RelV v r) (h:∀s',Inv X pins σ H' s'→Q () s') :
  wpAny (model X.prog X.w) A (setItem (.ref a) u r) Q E s:=by
 rcases g with ⟨kvs,k,e,ey,l,eH⟩ | ⟨kvs,k,b,e,ey,eb,l,eH⟩
 ·subst ey eH
  obtain⟨z,hd,vs,rel,dd⟩:=YQ I.jw e
  have hz:vs.length≤sizeLine:=by rw[←rel.length];exact z
  have hl:(putK kvs k v).length≤sizeLine:=by have:=dD kvs k v;omega
  refine wpAny_setItem_pairs (hsz:=hz) (QV ry) dd fun h' dd' hs=>h _ ?_
  have he:∃q,h'.get? a=some q:=let ⟨q,_,_,hq,_⟩:=dd';⟨q,hq⟩
  exact eU I (by rw[e];exact True.intro) hs he (VI hl hd (rel.put k rv) dd')
 ·subst ey eH
  cases (show u=Value.ref b from ry)
  obtain⟨z,hd,xs,rel,dd⟩:=YX I.jw e
  have hz:xs.length≤sizeLine:=by rw[←Paired.length rel];exact z
  have hl:(putK kvs k v).length≤sizeLine:=by have:=dD kvs k v;omega
  refine wpAny_setItem_heap (hsz:=hz) (tupleKind_room_in1 hu) (ia I.jw eb) dd fun h' dd' hs=>h _ ?_
  obtain⟨q,es,ep,hq,h2,h3,h4,_,h5⟩:=dd'
  refine eU I (by rw[e];exact True.intro) hs ⟨q,hq⟩ ⟨hl,hd,_,(rel.put k eb rv).keeps fun c ys ec=>?_,q,es,ep,hq,h2,h3,h4,h5⟩
  rw[qB (dI ec e (fun z=>nomatch z))]
  exact ec
end
section
variable {X:Cx} {pins:List (Addr × Obj)} {σ:St} {H:Hp} {s:Shared} {a:Addr} {kvs:List (Key × V)} {k:Key} {u:Value} {A:Around} {E:Value→Shared→Prop}
end
noncomputable def Px (i:Expr):Prop:=∀ov iv,subscripted i false ov iv=operate [ov,iv] (getItem ov iv)
noncomputable def BA (td ty:TE):TE:=fun σ H Q=>td σ H fun x H1=>ty σ H1 fun y H2=>∃a v,x=.ref a∧cF H2 a y (some v)∧Q v H2
noncomputable def Bl (ty td:TE):TE:=fun σ H Q=>ty σ H fun y H1=>td σ H1 fun x H2=>∃a o,x=.ref a∧cF H2 a y o∧Q (.bl o.isSome) H2
noncomputable def G4 (ty td:TE):TE:=fun σ H Q=>ty σ H fun y H1=>td σ H1 fun x H2=>∃a o,x=.ref a∧cF H2 a y o∧Q (.bl (!o.isSome)) H2
noncomputable def BN (td ty tv:TE):TS:=fun D σ H=>tv σ H fun v H1=>td σ H1 fun x H2=>ty σ H2 fun y H3=>∃a H4,x=.ref a∧aL H3 a y v H4∧D.nx σ H4
noncomputable def BL (td ty tv:TE) (rd:V→V→Hp→VK→Prop):TS:=fun D σ H=>td σ H fun x H1=>ty σ H1 fun y H2=>∃a v,x=.ref a∧cF H2 a y (some v)∧
 tv σ H2 fun y2 H3=>rd v y2 H3 fun z H4=>∃H5,aL H4 a y z H5∧D.nx σ H5
noncomputable def BS (td ty:TE):TS:=fun D σ H=>td σ H fun x H1=>ty σ H1 fun y H2=>∃a kvs k,x=.ref a∧H2 a=some (.dK kvs)∧y=kV k∧(bU kvs k).isSome=true∧D.nx σ (upd H2 a (.dK (Qs kvs k)))
section
variable {X:Cx} {o i e value:Expr} {pos pos' tpos:Pos} {td ty tv:TE}
theorem Q7 (hu:X.A.units + 1 < cLine) (hi:PE X i ty) (ho:PE X o td):PC X .In i o (Bl ty td):=by
 intro pins s σ H Q I h
 refine xy (hi pins s σ H _ I h) fun iv s1 ⟨y,H1,I1,ry,q1⟩=>xy (ho pins s1 σ H1 _ I1 q1) fun u s2 ⟨x,H2,I2,rx,a,ov,ex,g,q2⟩=>?_
 subst ex
 obtain rfl:u=Value.ref a:=rx
 exact HG hu I2 g ry fun s3 I3=>⟨.bl ov.isSome,H2,I3,rfl,q2⟩
end
theorem Qr {P:Program} {w:World} {H:Hp} (h:Heap) (hb:sysModules < h.objs.size):xx P w H (h.push { cls:=.type "dict",data:=.dict #[] }) h.objs.size (.dK []):=
 ⟨Nat.zero_le _,beq_eq_false_iff_ne.mpr (Ne.symm (Nat.ne_of_lt hb)),[],.nil,Heap.DictOf.new h⟩
noncomputable def W3:TE:=fun _ H Q=>∀p,H p=none→Q (.ref p) (upd H p (.dK []))
noncomputable def Bs:TE:=fun _ H Q=>∀p,H p=none→Q (.ref p) (upd H p (.dT []))
section
variable {X:Cx} {pos:Pos}
theorem Jz:PE X (.Dict [] [] pos) W3:=fun pins s σ H Q I h=>
 wpAny_Dict_empty ⟨.ref s.heap.objs.size,_,I.laid (a:=s.heap.objs.size) (o:=.dK []) (t':=s.toks) (fun _ _ q=>Heap.get?_push_of_some _ q) (Nat.le_refl _) (Qr s.heap I.big),rfl,h _ (I.jw.fresh (Nat.le_refl _))⟩
end
noncomputable def i4:List (TE × TE)→St→Hp→(List (V × V)→Hp→Prop)→Prop
 | [],_,H,Q=>Q [] H
 | (tk,tv) :: r,σ,H,Q=>tk σ H fun x H1=>tv σ H1 fun y H2=>i4 r σ H2 fun ps H3=>Q ((x,y) :: ps) H3
noncomputable abbrev VV:List (V × V)→List (Value × Value)→Prop:=Paired fun p q=>RelV p.1 q.1∧RelV p.2 q.2
noncomputable def Fj (X:Cx) (pos:Pos) (keys:List (Option Expr)) (values:List Expr) (trs:List (TE × TE)):Prop:=
 ∀(pins:List (Addr × Obj)) (s:Shared) (σ:St) (H:Hp) (Q:List (V × V)→Hp→Prop),Inv X pins σ H s→i4 trs σ H Q→
  wpAny (model X.prog X.w) X.A (evalPairs (pairTrees keys values X.env pos)) (fun vs s'=>∃ps H',Inv X pins σ H' s'∧VV ps vs∧Q ps H') X.xe s
noncomputable def Wy (kvs more:List (Key × V)):List (Key × V):=more.foldl (fun acc kv=>putK acc kv.1 kv.2) kvs
noncomputable def B0 (trs:List (TE × TE)):TE:=fun σ H Q=>∀p,H p=none→i4 trs σ (upd H p (.dK [])) fun ps H2=>H2 p=some (.dK [])∧∃kvs:List (Key × V),ps=kvs.map (fun kv=>(kV kv.1,kv.2))∧kvs.length≤15∧Q (.ref p) (upd H2 p (.dK (Wy [] kvs)))
structure M1 (X:Cx) (o:Expr) (m:Str) (apos:Pos) (e:Expr) (cpos:Pos):Prop where
 base:attributeBase o m X.env (eval o X.env)=eval o X.env
 lE:((backTo cpos (starEach [e] X.env)).all (fun x=>!x.1) && (backToKw cpos (keywordEach [] X.env)).all (fun x=>x.1.isSome)
  && decide (([e]:List Expr).length + ([]:List Keyword).length + (if ([]:List Keyword).isEmpty then 0 else 1) < 30))=true
 line:(apos.endLine == cpos.line)=true
 trees:backTo cpos (starEach [e] X.env)=[(false,eval e X.env)]
structure M2 (X:Cx) (o:Expr) (m:Str) (apos:Pos) (e f:Expr) (cpos:Pos):Prop where
 base:attributeBase o m X.env (eval o X.env)=eval o X.env
 lE:((backTo cpos (starEach [e,f] X.env)).all (fun x=>!x.1) && (backToKw cpos (keywordEach [] X.env)).all (fun x=>x.1.isSome)
  && decide (([e,f]:List Expr).length + ([]:List Keyword).length + (if ([]:List Keyword).isEmpty then 0 else 1) < 30))=true
 line:(apos.endLine == cpos.line)=true
 trees:backTo cpos (starEach [e,f] X.env)=[(false,eval e X.env),(false,eval f X.env)]
noncomputable def GP (H:Hp) (a:Addr):Prop:=(∃kvs,Rd H a (.dK kvs))∨∃kvs,Rd H a (.dT kvs)
section
variable {X:Cx} {pins:List (Addr × Obj)} {σ:St} {H:Hp} {s:Shared} {a:Addr} {y d:V} {u r:Value} {o:Option V} {A:Around} {E:Value→Shared→Prop}
end
noncomputable def Bu (td ty:TE):TE:=fun σ H Q=>td σ H fun x H1=>∃a,x=.ref a∧GP H1 a∧ty σ H1 fun y H2=>∃o,cF H2 a y o∧Q (o.getD .non) H2
noncomputable def Br (td ty tx:TE):TE:=fun σ H Q=>td σ H fun x H1=>∃a,x=.ref a∧GP H1 a∧ty σ H1 fun y H2=>tx σ H2 fun z H3=>∃o,cF H3 a y o∧Q (o.getD z) H3
noncomputable def Bt (td ty:TE):TE:=fun σ H Q=>td σ H fun x H1=>∃a,x=.ref a∧GP H1 a∧ty σ H1 fun y H2=>∃kvs k v,H2 a=some (.dK kvs)∧y=kV k∧bU kvs k=some v∧Q v (upd H2 a (.dK (Qs kvs k)))
noncomputable def Bn (td ty tx:TE):TE:=fun σ H Q=>td σ H fun x H1=>∃a,x=.ref a∧GP H1 a∧ty σ H1 fun y H2=>tx σ H2 fun z H3=>∃kvs k,H3 a=some (.dK kvs)∧y=kV k∧
 (∀v,bU kvs k=some v→Q v (upd H3 a (.dK (Qs kvs k))))∧(bU kvs k=none→Q z H3)
section
variable {X:Cx} {o e f:Expr} {apos cpos:Pos} {td ty tx:TE}
end
section
variable {X:Cx} {pins:List (Addr × Obj)} {σ:St} {H:Hp} {s:Shared} {a:Addr} {kvs:List (Key × V)} {A:Around} {E:Value→Shared→Prop}
end
section
variable {X:Cx} {pins:List (Addr × Obj)} {σ:St} {H:Hp} {s:Shared} {a:Addr} {y:V} {u:Value} {A:Around} {E:Value→Shared→Prop}
end
end L2
namespace L2
open PySem PySem.Spec PyProof.Rows
section
variable {X:Cx}
end
section
variable {κ:Type} [DecidableEq κ]
end
end L2
namespace L2
open PySem PySem.Spec PyProof.Rows
section
variable {X:Cx}
theorem XH {pos:Pos}:PE X (.Dict [] [] pos) (fun _ H Q=>Nw H (.dK []) Q):=Jz.mono fun _ _ _ q=>q.el
theorem lj (hu:X.A.units + 1 < cLine):Ym X (fun o i v H Q=>∃a kvs k,o=.ref a∧i=kV k∧H a=some (.dK kvs)∧kvs.length < sizeLine∧Ch H a (.dK (putK kvs k v)) Q):=by
 intro pins s σ H o i v ov iv u Q I ro ri rv h
 obtain⟨a,kvs,k,rfl,rfl,e,l,q⟩:=h
 cases ro
 exact Zq hu I (aL.k e l) ri rv fun s' I'=>⟨_,I',q.el⟩
end
end L2
namespace L2
open PyProof.Rows PySem PySem.Spec
section
variable {w:World} {A:Around} {E:Value→Shared→Prop} {s:Shared} {prog:Program}
end
noncomputable def nQ:List Str→List Str→Nat
 | _,[]=>0
 | seen,z :: r=>(if z∈seen then 0 else 1) + nQ (z :: seen) r
section
variable {w:World} {A:Around} {E:Value→Shared→Prop} {prog:Program}
theorem iS {K:Type} [DecidableEq K] {knd:KeyKind prog w K} {h h':Heap} {a it:Addr} {S:K→Bool} {n:Nat} (x:Heap.SetOf knd h a S n) (hb:Heap.SameBut it h h') (hne:a≠it):Heap.SetOf knd h' a S n:=by
 obtain⟨o,es,ep,t,ho,r⟩:=x
 exact⟨o,es,ep,t,(hb.2 a hne).trans ho,r⟩
theorem Jt {K:Type} [DecidableEq K] {knd:KeyKind prog w K} {h:Heap} {a:Addr} {S S':K→Bool} {n:Nat} (x:Heap.SetOf knd h a S n) (e:∀y,S' y=S y):Heap.SetOf knd h a S' n:=by
 have:S'=S:=funext e
 rw[this];exact x
theorem Jn {a it l : Addr} {items : Array Value} (hh : A.handled = none) (hia : it ≠ a) (hli : l ≠ it) (hla : l ≠ a) : ∀ (rest : List Str) (i : Nat) (s : Shared) (seen : List Str) (n : Nat) (R : Result → Shared → Prop), s.heap.IsListIter it l i → s.heap.IsList l items → items.size = i + rest.length → (∀ (j : Nat) (z : Str), rest[j]? = some z → ∃ t, items[i + j]? = some (.str z t)) →
    s.heap.SetOf (strKind prog w) a (fun y => decide (y ∈ seen)) n → n + rest.length < 1000 →
    (∀ h' tk S', (∀ b o, b ≠ it → b ≠ a → s.heap.get? b = some o → h'.get? b = some o) → h'.SetOf (strKind prog w) a S' (n + nQ seen rest) → R (.ok (.ret .none)) { s with heap := h', toks := tk }) →
    codeAny (model prog w) A (.builtin "set.update.loop" ⟨[.ref a, .ref it], []⟩) R s := by
  intro rest
  induction rest with
  | nil =>
    intro i s seen n R h1 h2 h3 h4 h5 h6 k
    refine codeAny_builtin F.entry_set_update_loop ?_
    show wpAny _ _ (pyNext (.ref it) >>= _) _ _ s
    refine wpAny_bind (wpAny_pyNext_list_end ?_ h1 h2 (by rw [Array.getElem?_eq_none_iff]; simp at h3; omega) fun h' hx => ?_)
    · exact hh
    · refine wpAny_pure (k h' s.toks (fun y => decide (y ∈ seen)) (fun b o hb _ e => hx b o hb e) ?_)
      obtain ⟨o, es, ep, t, ho, q⟩ := h5
      exact ⟨o, es, ep, t, hx _ _ (Ne.symm hia) ho, q⟩
  | cons z r ih =>
    intro i s seen n R h1 h2 h3 h4 h5 h6 k
    obtain ⟨t, ht⟩ := h4 0 z rfl
    refine codeAny_builtin F.entry_set_update_loop ?_
    show wpAny _ _ (pyNext (.ref it) >>= _) _ _ s
    refine wpAny_bind (wpAny_pyNext_list_item h1 h2 ht fun h' hi' hb => ?_)
    dsimp only
    unfold setAdd
    refine wpAny_bind (wpAny_holding (wpAny_holding (wpAny_bind ((strKind prog w).pyHash (strKind_is prog w z t) ?_))))
    have h5' := iS h5 hb (Ne.symm hia)
    have hl' : h'.IsList l items := by
      obtain ⟨o, ho, q⟩ := h2
      exact ⟨o, (hb.2 l hli).trans ho, q⟩
    refine wpAny_setAddHashed_of (s := { s with heap := h', toks := s.toks + 1 }) (strKind_is prog w z t) rfl h5' (by simp only [List.length_cons] at h6; unfold scanBound; omega) fun h2' hb2 h52 => ?_
    refine wpAny_pure ⟨Code.quiet_builtin _ (by decide +kernel), ?_⟩
    have hl2 : h2'.IsList l items := by
      obtain ⟨o, ho, q⟩ := hl'
      exact ⟨o, (hb2.2 l hla).trans ho, q⟩
    have hi2 : h2'.IsListIter it l (i + 1) := by
      obtain ⟨o, ho, q⟩ := hi'
      exact ⟨o, (hb2.2 it hia).trans ho, q⟩
    have h53 : h2'.SetOf (strKind prog w) a (fun y => decide (y ∈ z :: seen)) (n + if z ∈ seen then 0 else 1) := by
      have e : (if decide (z ∈ seen) = true then n else n + 1) = n + if z ∈ seen then 0 else 1 := by by_cases q : z ∈ seen <;> simp [q]
      rw [← e]
      exact Jt h52 fun y => by by_cases q : y = z <;> by_cases q' : y ∈ seen <;> simp [q, q']
    refine ih (i + 1) { s with heap := h2', toks := s.toks + 1 } (z :: seen) _ R hi2 hl2 (by simp only [List.length_cons] at h3; omega) (fun j y hj => ?_) h53 ?_ fun h3' tk S' q1 q2 => ?_
    · obtain ⟨t', ht'⟩ := h4 (j + 1) y (by simpa using hj)
      exact ⟨t', by rw [← ht']; congr 1; omega⟩
    · simp only [List.length_cons] at h6
      split <;> omega
    · refine k h3' tk S' (fun b o b1 b2 e => q1 b o b1 b2 ((hb2.2 b b2).trans ((hb.2 b b1).trans e))) ?_
      rw [show n + nQ seen (z :: r) = n + (if z ∈ seen then 0 else 1) + nQ (z :: seen) r by simp only [nQ]; omega]
      exact q2
set_option maxHeartbeats 1000001 in
theorem ZG {s : Shared} {a l : Addr} {led : Bool} {items : Array Value} {zs : List Str} {Q : Fin → Shared → Prop} (hh : A.handled = none) (ha : s.heap.get? a = some { cls := .type "set", dict := none, data := .set #[] 0 (.fresh 0 0 led) }) (hl : s.heap.IsList l items) (hz : items.size = zs.length) (hi : ∀ (j : Nat) (z : Str), zs[j]? = some z → ∃ t, items[j]? = some (.str z t)) (hn : zs.length < 1000) (hla : l ≠ a)
    (h : ∀ h' tk S', (∀ b o, b ≠ a → s.heap.get? b = some o → h'.get? b = some o) → h'.SetOf (strKind prog w) a S' (nQ [] zs) → Q (.done (.ret .none)) { s with heap := h', toks := tk }) : wpAny (model prog w) A (Builtin.«set.__init__» ⟨[.ref a, .ref l], []⟩) Q E s := by
  have hT : Shared.TypeIs s (.ref a) "set" := ⟨_, ha, rfl⟩
  unfold Builtin.«set.__init__» noKeywords
  obtain ⟨ol, hol, hcl, nl, hdl⟩ := id hl
  have hTl : Shared.TypeIs s (.ref l) "list" := ⟨ol, hol, hcl⟩
  wp_walk
  refine wpAny_of_eq F.sub_list_set (wpAny_isInstance hTl F.sub_list_frozenset ?_)
  (rw [if_neg Bool.false_ne_true])
  refine wpAny_bind (wpAny_typeOf hTl ?_)
  rw [if_neg (by decide)]
  refine wpAny_bind (wpAny_pyIter_list hl ?_)
  generalize hoi : ({ cls := .type "list_iterator", data := .fields #[.ref l, .int 0 0] } : Obj) = oi
  show wpAny _ _ (runValue (.builtin "set.update.loop" ⟨[.ref a, .ref s.heap.objs.size], []⟩) >>= _) _ _ { s with heap := s.heap.push oi }
  have sa : a < s.heap.objs.size := Heap.lt_size ha
  have sl : l < s.heap.objs.size := Heap.lt_size hol
  have k0 : ∀ b o, s.heap.get? b = some o → (s.heap.push oi).get? b = some o := fun b o e => Heap.get?_push_of_some _ e
  refine wpAny_bind (wpAny_runValue (Jn hh (Nat.ne_of_gt sa) (Nat.ne_of_lt sl) hla zs 0 { s with heap := s.heap.push oi } [] 0 _ ?_ ⟨ol, k0 _ _ hol, hcl, nl, hdl⟩ (by omega) (fun j z e => by simpa using hi j z e) ⟨_, #[], 0, _, k0 _ _ ha, ⟨rfl, rfl, rfl⟩, rfl, fun e he => by simp at he, fun y => by simp, by unfold scanBound; simp, rfl, rfl⟩ (by omega) fun h' tk S' q1 q2 => ?_))
  · exact ⟨oi, Heap.get?_push_size _ (by rw [← hoi]; rfl), by rw [← hoi], by rw [← hoi]; rfl⟩
  · refine wpAny_pure (wpAny_pure (h h' tk S' (fun b o hb e => q1 b o (Nat.ne_of_lt (Heap.lt_size e)) hb (k0 b o e)) ?_))
    rw [Nat.zero_add] at q2; exact q2
set_option maxHeartbeats 1000001 in
/-- what a call may come to: a value, or an exception -/
theorem wants_or {Q : Value → Shared → Prop} {E : Value → Shared → Prop} {r : Result} {s : Shared} (h : wants Q E r s) : (∃ v, r = .ok (.ret v) ∧ Q v s) ∨ ∃ e, r = .error e ∧ E e s := by
  rcases r with e | f
  · exact .inr ⟨e, rfl, h⟩
  · cases f <;> first | exact .inl ⟨_, rfl, h⟩ | exact h.elim
set_option maxHeartbeats 1000001 in
theorem aA {s : Shared} {l : Addr} {items : Array Value} {zs : List Str} {Q : Value → Shared → Prop} (hh : A.handled = none) (hl : s.heap.IsList l items) (hz : items.size = zs.length) (hi : ∀ (j : Nat) (z : Str), zs[j]? = some z → ∃ t, items[j]? = some (.str z t)) (hn : zs.length < 1000)
    (h : ∀ h' tk a S', s.heap.objs.size ≤ a → (∀ b o, s.heap.get? b = some o → h'.get? b = some o) → h'.SetOf (strKind prog w) a S' (nQ [] zs) → Q (.ref a) { s with heap := h', toks := tk }) : wpAny (model prog w) A (call (.type "set") [.ref l]) Q E s := by
  have C := F.called_set
  obtain ⟨_, _, m⟩ := C.mro
  obtain ⟨c1, c2, c3, c4, c5⟩ : _ ∧ _ ∧ _ ∧ _ ∧ _ := ⟨C.made, C.sub, C.notType, C.canCreate, F.typeCall_set_1 (.ref l)⟩
  have up : ∀ {o : Obj} {b : Addr} {u : Obj}, s.heap.get? b = some u → (s.heap.push o).get? b = some u := fun e => Heap.get?_push_of_some _ e
  have lo : ∀ {b : Addr} {u : Obj}, s.heap.get? b = some u → b ≠ s.heap.objs.size := fun e => Nat.ne_of_lt (Heap.lt_size e)
  obtain ⟨ol, gl, dl⟩ := hl
  refine wpAny_call (codeAny_of_tree (?_ : wpAny _ _ (callAny (.type "set") _) _ _ _))
  refine wpAny_pure ⟨Code.quiet_builtin _ (by decide +kernel), codeAny_builtin F.entry_type_call (Around.under_plain (weight_type_call_type "set" [.ref l] []) rfl ▸ ?_)⟩
  repeat any_goals first | assumption | wp_step
  refine codeAny_mono (code_set_new_1 _ (E := E) (Q₁ := fun v s1 => v = .ref s.heap.objs.size ∧ ∃ led, s1 = { s with heap := s.heap.push { cls := .type "set", data := .set #[] 0 (.fresh 0 0 led) } }) fun led => ⟨rfl, led, rfl⟩) fun r s1 hr => ?_
  rcases wants_or hr with ⟨_, rfl, rfl, led, rfl⟩ | ⟨_, rfl, he⟩
  · have g := Heap.get?_push_size s.heap (o := { cls := .type "set", data := .set #[] 0 (.fresh 0 0 led) }) rfl
    have ty : Shared.TypeIs { s with heap := s.heap.push _ } (.ref s.heap.objs.size) "set" := ⟨_, g, rfl⟩
    obtain ⟨c6, c7⟩ : _ ∧ _ := ⟨C.init.lookup, C.init.bind (.ref s.heap.objs.size)⟩
    repeat any_goals first | assumption | wp_step
    have run := ZG (s := { s with heap := s.heap.push _ }) (prog := prog) (w := w) (A := A.in1.in1) (E := E) (Q := fun f s2 => f = .done (.ret .none) ∧ Q (.ref s.heap.objs.size) s2) hh g ⟨ol, up gl, dl⟩ hz hi hn (lo gl) fun h' tk S' k1 k2 => ⟨rfl, h h' tk _ S' (Nat.le_refl _) (fun b u e => k1 b u (lo e) (up e)) k2⟩
    refine codeAny_mono (codeAny_call_builtin (R := wants (fun v s2 => v = .none ∧ Q (.ref s.heap.objs.size) s2) E) C.init.plain F.entry_set_init (check_set_init_1 ty (xy run fun f s2 ⟨e, q⟩ => e ▸ ⟨rfl, q⟩))) fun r s2 hr => ?_
    rcases wants_or hr with ⟨_, rfl, rfl, q⟩ | ⟨_, rfl, he⟩
    · repeat any_goals first | assumption | wp_step
    · exact he
  · exact he
end
end L2
namespace L2
open PyProof.Rows PySem PySem.Spec
noncomputable def Yg (P:Program) (w:World) (a:Addr) (n:Nat):HO:=.ext fun h=>∃S,Heap.SetOf (strKind P w) h a S n
theorem WI {P:Program} {w:World} {H:Hp} {h:Heap} {a:Addr} {S:Str→Bool} {n:Nat} (x:Heap.SetOf (strKind P w) h a S n):xx P w H h a (Yg P w a n):=by
 have x':=x
 obtain⟨o,es,ep,t,ho,r⟩:=x'
 refine⟨⟨S,x⟩,⟨o,ho⟩,fun h1 h2 ⟨S',o',es',ep',t',ho',r'⟩ k=>⟨S',o',es',ep',t',k _ ho',r'⟩⟩
theorem WO {P:Program} {w:World} {H:Hp} {h:Heap} {a:Addr} {n:Nat} (x:hU P w H h) (q:H a=some (Yg P w a n)):∃S,Heap.SetOf (strKind P w) h a S n:=(x a _ q).1
section
variable {X:Cx} {K:PySem.W.Frag}
theorem XY (hK:X.K=K) (hc:X.calm=true):kA X (.type "set") (fun xs H Q=>∃p zs,xs=[.ref p]∧jx K H p (zs.map V.str)∧zs.length < 1000∧∀a,H a=none→Q (.ref a) (upd H a (Yg X.prog X.w a (nQ [] zs)))):=by
 subst hK
 (intro pins s σ H xs us Q I r h)
 obtain⟨p,zs,rfl,hl,hn,k⟩:=h
 (obtain⟨u,rfl,ru⟩:=vals1 r)
 cases ru
 obtain⟨its,rv,⟨o,n,ho,hcl,_,hd⟩,_⟩:=I.list hl
 have hz:its.length=zs.length:=by rw[←rv.length,List.length_map]
 refine aA (zs:=zs) (I.ok.hd hc) ⟨o,ho,hcl,n,hd⟩ (by simpa using hz) (fun j z e=>?_) hn fun h' tk a S' q1 q2 q3=>?_
 ·obtain⟨u,e1,⟨t,rfl⟩⟩:=rv.get (i:=j) (x:=.str z) (by rw[List.getElem?_map,e];rfl)
  exact⟨t,by simpa using e1⟩
 ·exact⟨.ref a,_,I.laid (a:=a) (o:=Yg X.prog X.w a (nQ [] zs)) (h':=h') (t':=tk) q2 q1 (WI q3),rfl,k a (I.jw.fresh q1)⟩
theorem aE:kA X (.builtin "len") (fun xs H Q=>∃a n,xs=[V.ref a]∧H a=some (Yg X.prog X.w a n)∧Q (.int (n:Nat)) H):=by
 (intro pins s σ H xs us Q I r h)
 obtain⟨a,n,rfl,ha,q⟩:=h
 (obtain⟨u,rfl,ru⟩:=vals1 r)
 cases ru
 obtain⟨S,o,es,ep,t,ho,hex,hd,_,_,hb,hf,hn⟩:=WO I.jw ha
 refine call_len_set ho hex hd hf (by have:es.size < 4096:=hb;omega) ?_
 rw[hn]
 exact⟨.int n,H,I.tok _,⟨_,rfl⟩,q⟩
end
end L2
namespace L2
theorem Qc:∀(seen zs:List PySem.Str),nQ seen zs≤zs.length
 | _,[]=>Nat.le_refl _
 | seen,z :: r=>by
  have:=Qc (z :: seen) r
  simp only[nQ,List.length_cons]
  split<;>omega
theorem eL:∀(seen zs:List PySem.Str),nQ seen zs=zs.length↔zs.Nodup∧∀z∈zs,z∉seen
 | _,[]=>by simp [nQ]
 | seen,z :: r=>by
  have h1:=Qc (z :: seen) r
  have h2:=eL (z :: seen) r
  simp only[nQ,List.length_cons,List.nodup_cons,List.mem_cons]
  by_cases q:z∈seen
  ·rw[if_pos q]
   constructor
   ·intro e;omega
   ·rintro ⟨_,h⟩;exact absurd q (h z (.inl rfl))
  ·rw[if_neg q]
   constructor
   ·intro e
    obtain⟨a,b⟩:=h2.mp (by omega)
    refine⟨⟨fun hz=>(b z hz) (by simp),a⟩,?_⟩
    rintro y (rfl | hy)
    ·exact q
    ·exact fun hs=>b y hy (List.mem_cons_of_mem _ hs)
   ·rintro ⟨⟨a,b⟩,c⟩
    have:=h2.mpr ⟨b,fun y hy hs=>?_⟩
    ·omega
    ·rcases List.mem_cons.mp hs with rfl | hs
     ·exact a hy
     ·exact c y (.inr hy) hs
theorem VO (zs:List PySem.Str):decide (((nQ [] zs:Nat):Int)=(zs.length:Nat))=decide zs.Nodup:=by
 have:=eL [] zs
 rw[decide_eq_decide]
 constructor
 ·intro e;exact(this.mp (by omega)).1
 ·intro e;have:=this.mpr ⟨e,fun _ _ h=>by cases h⟩;omega
end L2
set_option maxRecDepth 100000
namespace My
open PySem PySem.Spec PyProof.Rows L2
seal PE PT PW PA PS ij PI PG Yx PO PC Pw Hw
local macro_rules | `(tactic| walk_at "lk")=>`(tactic| first | assumption | exact qr | exact YM (by assumption) (by walk_at "sm") | (refine qf.look (by assumption) ?_;walk_at "lk"))
local macro_rules | `(tactic| walk_at "sq")=>`(tactic| first | assumption | exact jx.of (by walk_at "lk") | exact WT (by assumption) (by walk_at "sm"))
local macro_rules | `(tactic| walk_at "sqT")=>`(tactic| first | assumption | exact fz.of (by walk_at "lk") | exact seqTS (by assumption) (by walk_at "sm"))
local macro_rules | `(tactic| walk_at "sm")=>`(tactic| first | assumption | exact qf.refl _ | (refine qf.trans ?_ (by assumption);walk_at "sm"))
local macro_rules | `(tactic| walk_at "sz")=>`(tactic| first | with_reducible assumption | with_reducible exact XR | ((with_reducible apply Xv)<;>walk_at "sz") | ((with_reducible apply slice_len);walk_at "sz") | with_reducible exact QP _)
local macro_rules | `(tactic| walk_at "num")=>`(tactic| first | decide +kernel | omega | (simp only[List.length_cons,List.length_nil];omega))
local macro_rules | `(tactic| walk_at "lsz")=>`(tactic| first
 | ((with_reducible apply VC);(focus walk_at "sz");(focus walk_at "sz");walk_at "num")
 | ((with_reducible apply qp);first | decide +kernel | (simp only[List.length_cons,List.length_nil,List.length_map,List.length_append];omega))
 | ((with_reducible apply Ji);(focus walk_at "sz");walk_at "num"))
local macro_rules | `(tactic| walk_at "ar")=>`(tactic| first
 | walk_at "lsz"
 | omega
 | (refine And.intro ?_ ?_<;>omega)
 | (refine Or.inl (And.intro ?_ ?_)<;>omega)
 | (refine Or.inr (And.intro ?_ ?_)<;>omega)
 | decide +kernel
 | (show (0:Int) < _;decide +kernel)
 | (show (0:Int) < _;omega)
 | (refine And.intro ?_ (And.intro ?_ ?_)<;>decide +kernel))
local macro_rules | `(tactic| walk_at "lsl")=>`(tactic| first
 | exact da (by simp only[List.length_cons,List.length_nil,List.length_map,List.length_append];omega)
 | exact da (by omega))
local macro_rules | `(tactic| walk_at "own")=>`(tactic| fail)
local macro_rules | `(tactic| walk_at "fld")=>`(tactic| fail)
local macro_rules | `(tactic| walk_at "r1")=>`(tactic| (fail_if_success (refine Exists.intro (α:=Nat→Nat→L2.St→Hp→Prop) ?_ ?_));first
 | refine⟨_,rfl,?_⟩
 | refine⟨_,(by walk_at "fld" : VH _ _ _ _ _),?_⟩
 | refine⟨_,_,rfl,rfl,?_⟩
 | refine⟨_,_,_,_,rfl,rfl,by walk_at "sq",Qz (by walk_at "num") (by walk_at "num"),?_⟩
 | refine⟨_,_,_,_,rfl,rfl,by walk_at "sq",yl (by walk_at "num") (by walk_at "num"),?_⟩
 | refine⟨_,_,_,_,rfl,rfl,by walk_at "sqT",rfl,?_⟩
 | refine⟨_,_,rfl,.inr (by walk_at "sqT"),rfl,rfl,?_⟩
 | refine⟨_,_,rfl,.inl (by walk_at "sq"),rfl,rfl,?_⟩
 | refine⟨_,_,_,rfl,rfl,by walk_at "lsz",Qj (by omega) (by omega),?_⟩
 | refine⟨_,_,_,rfl,rfl,by walk_at "lk",by walk_at "lsl",?_⟩
 | refine⟨_,_,rfl,by walk_at "sq",?_⟩
 | refine⟨_,_,rfl,by walk_at "sqT",rfl,?_⟩
 | (refine And.intro ?_ ?_;· (apply Exists.intro;walk_at "sq"))
 | (refine And.intro (Or.inl (And.intro rfl ?_)) ?_;· (apply Exists.intro;walk_at "sq"))
 | refine⟨_,_,rfl,?_⟩
 | refine⟨_,_,_,rfl,?_⟩
 | refine And.intro rfl ?_
 | (refine And.intro ?_ ?_;· assumption)
 | refine⟨_,_,.type "bool",true,rfl,.inl ⟨_,rfl⟩,bq.bl _,mQ _ _,?_⟩
 | refine⟨_,_,.type "str",true,rfl,.inl ⟨_,rfl⟩,bq.str _,mQ _ _,?_⟩
 | refine⟨_,_,.type "int",true,rfl,.inl ⟨_,rfl⟩,bq.int _,mQ _ _,?_⟩
 | refine⟨_,_,.type "list",true,rfl,.inl ⟨_,rfl⟩,bq.lst (by walk_at "lk"),mQ _ _,?_⟩
 | (refine And.intro ?_ ?_;· walk_at "ar")
 | refine yR ?_
 | refine sv ?_
 | refine YB rfl ?_)
local macro_rules | `(tactic| walk_at "rd")=>`(tactic| repeat (first | walk_at "own" | walk_at "r1"))
local macro_rules | `(tactic| walk_at "rdi")=>`(tactic| repeat (first | walk_at "own" | walk_at "r1" | ((show Nw _ _ _);intro _ _ _ _ _)))
set_option genInjectivity false
set_option genSizeOf false
noncomputable def top (i:Nat):Stmt:=PySem.Challenge.pw_pactway_k25_first_wrong_row.main.body.getD i (.Pass ⟨0,0,0,0⟩)
noncomputable abbrev jM:Stmt:=inClass (top 3) 0
noncomputable abbrev jF:Stmt:=inClass (top 15) 0
noncomputable abbrev jK:Stmt:=inClass (top 15) 6
noncomputable abbrev xm:Stmt:=inClass (top 16) 0
noncomputable abbrev xq:Stmt:=inClass (top 16) 4
noncomputable abbrev xT:Stmt:=inClass (top 18) 0
noncomputable abbrev j8:Stmt:=inClass (top 19) 0
noncomputable abbrev xI:Stmt:=inClass (top 21) 0
noncomputable abbrev xr:Stmt:=inClass (top 22) 0
noncomputable abbrev xu:Stmt:=inClass (top 23) 0
noncomputable abbrev xl:Stmt:=top 30
noncomputable abbrev jC:Stmt:=top 31
noncomputable abbrev qA:Stmt:=top 32
noncomputable abbrev j9:Stmt:=top 36
noncomputable abbrev jt:Stmt:=top 37
noncomputable abbrev xn:Stmt:=top 38
noncomputable abbrev xE:Stmt:=top 39
noncomputable abbrev xt:Stmt:=top 40
noncomputable abbrev jD:Stmt:=top 41
noncomputable abbrev jn:Stmt:=top 42
noncomputable abbrev ja:Stmt:=top 43
noncomputable abbrev vH:Stmt:=top 50
noncomputable abbrev jZ:Stmt:=top 51
noncomputable abbrev jU:Stmt:=top 52
noncomputable abbrev jc:Stmt:=top 53
noncomputable abbrev jQ:Stmt:=top 54
noncomputable abbrev xf:Stmt:=inClass (top 55) 0
noncomputable abbrev jh:Stmt:=inClass (top 55) 1
noncomputable abbrev j7:Stmt:=inClass (top 55) 2
noncomputable abbrev q9:Stmt:=inClass (top 55) 3
noncomputable abbrev jz:Stmt:=inClass (top 55) 4
noncomputable abbrev qL:Stmt:=inClass (top 55) 5
noncomputable abbrev jP:Stmt:=inClass (top 55) 6
noncomputable abbrev jB:Stmt:=inClass (top 55) 7
noncomputable abbrev xo:Stmt:=top 57
noncomputable abbrev yb:Stmt:=top 58
noncomputable abbrev vB:Stmt:=top 59
noncomputable abbrev xG:Stmt:=top 60
noncomputable abbrev xA:Stmt:=top 61
noncomputable abbrev x4:Stmt:=top 62
noncomputable abbrev yp:Stmt:=top 63
noncomputable abbrev kU:Stmt:=top 64
noncomputable abbrev xi:Stmt:=top 65
noncomputable abbrev jJ:Stmt:=top 66
noncomputable abbrev xa:Stmt:=top 67
noncomputable abbrev xZ:Stmt:=top 68
noncomputable abbrev jR:Stmt:=top 69
noncomputable abbrev wm:Stmt:=top 70
structure Def (K:PySem.W.Frag) (mg:Str→Option Value) (x:Str) (st:Stmt) (ps:List Str) (f:Addr) (fd:FuncData):Prop where
 fn:J9 K x x st f fd
 bd:Binds K fd ps []
 mg:mg x=some (.ref f)
structure bD (K:PySem.W.Frag) (x q:Str) (st:Stmt) (ps:List Str) (f:Addr) (fd:FuncData):Prop where
 fn:J9 K x q st f fd
 bd:Binds K fd ps []
structure xj where
 xK:Addr
 x6:FuncData
 qE:Addr
 xX:FuncData
 bG:Addr
 bY:FuncData
 vq:Addr
 yN:FuncData
 fk:Addr
 fj:FuncData
 vT:Addr
 bh:FuncData
 ki:Addr
 yx:FuncData
 yo:Addr
 bp:FuncData
 km:Addr
 k9:FuncData
 wX:Addr
 yO:FuncData
 vj:Addr
 vz:FuncData
 kM:Addr
 kB:FuncData
 xY:Addr
 xW:FuncData
 yw:Addr
 yk:FuncData
 kF:Addr
 kH:FuncData
 gq:Addr
 yE:FuncData
 br:Addr
 bf:FuncData
 gz:Addr
 yI:FuncData
 wj:Addr
 v7:FuncData
 x9:Addr
 x8:FuncData
 vo:Addr
 vm:FuncData
 mr:Addr
 mh:FuncData
 vi:Addr
 vd:FuncData
 kD:Addr
 kP:FuncData
 ve:Addr
 vc:FuncData
 va:Addr
 vt:FuncData
 wJ:Addr
 yT:FuncData
 ko:Addr
 vL:FuncData
 yv:Addr
 bb:FuncData
 kq:Addr
 vp:FuncData
 kj:Addr
 vf:FuncData
 xV:Addr
 kY:FuncData
 wq:Addr
 gZ:FuncData
 wz:Addr
 gi:FuncData
 wK:Addr
 wQ:FuncData
 gj:Addr
 yA:FuncData
 ml:Addr
 mf:FuncData
 pN:Addr
 pT:FuncData
 bt:Addr
 bc:FuncData
 bo:Addr
 bu:FuncData
 cm:Addr
 cb:FuncData
 mi:Addr
 mm:FuncData
 gx:Addr
 y0:FuncData
 vZ:Addr
 vn:FuncData
 gk:Addr
 y8:FuncData
 gw:Addr
 y9:FuncData
 wx:Addr
 v8:FuncData
 md:Addr
 cg:FuncData
 bI:Addr
 qI:Addr
 mq:Addr
 bj:Addr
 mz:Addr
 pS:Addr
 fE:Addr
 pL:Addr
 mj:Addr
 bw:Addr
 cy:Addr
 KU:Addr
 x5:Addr
 yt:Addr
 kR:Addr
 bO:Addr
 vb:Addr
 fA:Addr
 jL:Addr
 xg:Addr
 qN:Addr
 cN:Addr
 mZ:Addr
noncomputable def gh:List Str:=["acts","any","be","by","calm","done","else","end","in","let","may","must","not","part","parties","rest","sore","to","whole"]
noncomputable def jT:List Str:=["calm","sore","end"]
noncomputable abbrev qT:Str:="abcdefghijklmnopqrstuvwxyz"
noncomputable abbrev kz:Str:="0123456789"
structure Txt (K:PySem.W.Frag) (mg:Str→Option Value) (t:xj):Prop where
 xH:bD K "__init__" "NoText.__init__" jM ["self","row"] t.xK t.x6
 k6:bD K "__init__" "Clause.__init__" jF ["self","label","who","act"] t.qE t.xX
 u5:bD K "number" "Clause.number" jK ["self"] t.bG t.bY
 dz:bD K "__init__" "Duty.__init__" xm ["self","label","who","act","turns","room"] t.vq t.yN
 tU:bD K "number" "Duty.number" xq ["self"] t.fk t.fj
 cP:bD K "__init__" "Ban.__init__" xT ["self","label","who","act","room"] t.vT t.bh
 fK:bD K "__init__" "Power.__init__" j8 ["self","label","who","act","room"] t.ki t.yx
 cM:bD K "__init__" "Let.__init__" xI ["self","name","value"] t.yo t.bp
 ym:bD K "__init__" "Part.__init__" xr ["self","name","rooms","rows"] t.km t.k9
 dj:bD K "__init__" "Pact.__init__" xu ["self","parties","acts","rooms","whole"] t.wX t.yO
 jA:Def K mg "is_name" xl ["word"] t.vj t.vz
 xF:Def K mg "number_of" jC ["word"] t.kM t.kB
 jO:Def K mg "written_with" qA ["word","signs","most"] t.xY t.xW
 yD:Def K mg "names_of" j9 ["row","word","most"] t.yw t.yk
 xP:Def K mg "are_names" jt ["words","most"] t.kF t.kH
 gA:Def K mg "room_of" xn ["row"] t.gq t.yE
 pM:Def K mg "let_of" xE ["row"] t.br t.bf
 gE:Def K mg "part_of" xt ["row"] t.gz t.yI
 wR:Def K mg "clause_of" jD ["row"] t.wj t.v7
 qD:Def K mg "fits_form" jn ["words","form"] t.x9 t.x8
 vF:Def K mg "fits_place" ja ["word","place"] t.vo t.vm
 uT:Def K mg "read" vH ["text"] t.mr t.mh
 xQ:Def K mg "read_names" jZ ["rows","number","word","most","taken"] t.vi t.vd
 xM:Def K mg "told_once" jU ["names"] t.kD t.kP
 vM:Def K mg "read_rooms" jc ["rows","taken"] t.ve t.vc
 vD:Def K mg "read_whole" jQ ["rows","start"] t.va t.vt
 m9:bD K "__init__" "Body.__init__" xf ["self"] t.wJ t.yT
 kh:bD K "many_open" "Body.many_open" jh ["self"] t.ko t.vL
 fX:bD K "takes" "Body.takes" j7 ["self","row"] t.yv t.bb
 wN:bD K "takes_done" "Body.takes_done" q9 ["self"] t.kq t.vp
 wO:bD K "takes_head" "Body.takes_head" jz ["self","head"] t.kj t.vf
 vg:bD K "takes_clause" "Body.takes_clause" qL ["self","clause"] t.xV t.kY
 wo:bD K "put_in" "Body.put_in" jP ["self","row"] t.wq t.gZ
 yL:bD K "closed" "Body.closed" jB ["self"] t.wz t.gi
 jl:Def K mg "_law_cell_at" xo ["_law_script","_law_k"] t.wK t.wQ
 jd:Def K mg "_law_mix" yb ["_law_cell","_law_k"] t.gj t.yA
 uE:Def K mg "_law_name" vB ["_law_cell","_law_k"] t.ml t.mf
 m6:Def K mg "_law_event" xG ["_law_names","_law_cell","_law_label","_law_depth"] t.pN t.pT
 pD:Def K mg "_law_events" xA ["_law_names","_law_script"] t.bt t.bc
 pC:Def K mg "_law_header" x4 ["_law_names","_law_cell"] t.bo t.bu
 oI:Def K mg "_law_row" yp ["_law_event_here"] t.cm t.cb
 uA:Def K mg "_law_rows" kU ["_law_header_here","_law_events_here"] t.mi t.mm
 g6:Def K mg "_law_no_text" xi ["_law_e"] t.gx t.y0
 jX:Def K mg "_law_refused_at" jJ ["_law_text"] t.vZ t.vn
 g7:Def K mg "_law_odd_row" xa ["_law_names","_law_rows_here","_law_at","_law_cell"] t.gk t.y8
 g8:Def K mg "_law_open_at" xZ ["_law_rows_here","_law_at"] t.gw t.y9
 wL:Def K mg "_law_spoilt_at" jR ["_law_names","_law_rows_here","_law_many","_law_cell"] t.wx t.v8
 JT:Def K mg "law" wm ["_law_script"] t.md t.cg
 dk:mg "list" = none
 kf:mg "len" = none
 yS:mg "range" = none
 eV:mg "all" = none
 fO:mg "int" = none
 KD:mg "str" = none
 q0:mg "isinstance" = none
 Qk:mg "bool" = none
 KC:mg "zip" = none
 fN:mg "ValueError" = none
 KP:mg "set" = none
 Qa:mg "KEPT" = some (.ref t.cN)
 rB:∃tk,mg "LETTERS" = some (.str "abcdefghijklmnopqrstuvwxyz" tk)
 rH:∃tk,mg "FIGURES" = some (.str "0123456789" tk)
 b7:∃tk,mg "MOST_LETTERS" = some (.int 8 tk)
 bA:∃tk,mg "MOST_FIGURES" = some (.int 20 tk)
 aj:mg "MARKS" = some (.ref t.mZ)
 ba:∃tk,mg "MOST_ROOMS" = some (.int 12 tk)
 b8:∃tk,mg "MOST_PARTIES" = some (.int 4 tk)
 dB:∃tk,mg "MOST_ACTS" = some (.int 6 tk)
 dF:∃tk,mg "MOST_ROWS" = some (.int 90 tk)
 dP:∃tk,mg "MOST_OPEN" = some (.int 6 tk)
 vQ:∃tk,mg "FIRST_ROOM" = some (.int 2 tk)
 dU:mg "PactError" = some (.ref t.bI)
 wG:mg "NoText" = some (.ref t.qI)
 nU:mg "NoName" = some (.ref t.mq)
 cA:mg "CalmRoom" = some (.ref t.bj)
 nC:mg "NoDeed" = some (.ref t.mz)
 rO:mg "TooMany" = some (.ref t.pS)
 nD:mg "Breach" = some (.ref t.fE)
 rN:mg "NoStand" = some (.ref t.pL)
 nR:mg "NoPair" = some (.ref t.mj)
 c9:mg "NoChange" = some (.ref t.bw)
 af:mg "NoRow" = some (.ref t.cy)
 YD:mg "Row" = some (.ref t.KU)
 c8:mg "Clause" = some (.ref t.x5)
 QD:mg "Duty" = some (.ref t.yt)
 sm:mg "Leave" = some (.ref t.kR)
 KA:mg "Ban" = some (.ref t.bO)
 au:mg "Power" = some (.ref t.vb)
 K0:mg "Let" = some (.ref t.fA)
 uz:mg "Part" = some (.ref t.jL)
 QC:mg "Pact" = some (.ref t.xg)
 QM:mg "Body" = some (.ref t.qN)
 Q0:∃(o:Obj) (its:Array Value) (n:Nat),K.lookup t.cN=some o∧o.cls=.type "tuple"∧o.data=.seq its n∧its.size≤sizeLine∧Vals (gh.map V.str) its.toList
 ae:∃(o:Obj) (its:Array Value) (n:Nat),K.lookup t.mZ=some o∧o.cls=.type "tuple"∧o.data=.seq its n∧its.size≤sizeLine∧Vals (jT.map V.str) its.toList
 rW:cv K t.x5
 fh:qH K t.x5 "act"
 bB:qH K t.x5 "label"
 pq:qH K t.x5 "room"
 bP:qH K t.x5 "turns"
 fb:qH K t.x5 "who"
 rE:Mk K t.x5 t.qE
 eP:cv K t.yt
 dS:qH K t.yt "act"
 ff:qH K t.yt "label"
 mW:qH K t.yt "room"
 fc:qH K t.yt "turns"
 dN:qH K t.yt "who"
 sd:Mk K t.yt t.vq
 nk:cv K t.kR
 mY:qH K t.kR "act"
 pj:qH K t.kR "label"
 fu:qH K t.kR "room"
 pk:qH K t.kR "turns"
 mG:qH K t.kR "who"
 ux:Mk K t.kR t.qE
 Qh:cv K t.bO
 uv:qH K t.bO "act"
 mK:qH K t.bO "label"
 dR:qH K t.bO "room"
 mV:qH K t.bO "turns"
 uw:qH K t.bO "who"
 iW:Mk K t.bO t.vT
 nv:cv K t.vb
 mF:qH K t.vb "act"
 pf:qH K t.vb "label"
 fe:qH K t.vb "room"
 pd:qH K t.vb "turns"
 mM:qH K t.vb "who"
 uk:Mk K t.vb t.ki
 ix:cv K t.fA
 dO:qH K t.fA "name"
 mH:qH K t.fA "value"
 QT:Mk K t.fA t.yo
 bg:cv K t.jL
 yy:qH K t.jL "name"
 gQ:qH K t.jL "rooms"
 mP:qH K t.jL "rows"
 mX:Mk K t.jL t.km
 mw:cv K t.xg
 mB:qH K t.xg "acts"
 bF:qH K t.xg "parties"
 fo:qH K t.xg "rooms"
 fi:qH K t.xg "whole"
 ao:Mk K t.xg t.wX
 jY:cv K t.qN
 ku:qH K t.qN "bodies"
 wy:qH K t.qN "heads"
 yW:qH K t.qN "labels"
 ar:Mk K t.qN t.wJ
 ky:Meth K t.qN "many_open" t.ko
 fg:Meth K t.qN "takes" t.yv
 yK:Meth K t.qN "takes_done" t.kq
 yV:Meth K t.qN "takes_head" t.kj
 wB:Meth K t.qN "takes_clause" t.xV
 vX:Meth K t.qN "put_in" t.wq
 yX:Meth K t.qN "closed" t.wz
 lH:KH K t.qI
 fS:GU K t.qI
 vy:Hh K t.qI t.xK
 kC:qH K t.qI "row"
 yj:PySem.W.exmOne K (.ref t.qI) (.ref t.bI)=some true
 dv:Z2 K t.x5 "__init__" t.qE
 ny:Z2 K t.kR "__init__" t.qE
 gD:PySem.W.kitOne K (.ref t.qI) (.ref t.mq)=some false
 ya:PySem.W.kitOne K (.ref t.qI) (.ref t.bj)=some false
 gM:PySem.W.kitOne K (.ref t.qI) (.ref t.mz)=some false
 gg:PySem.W.kitOne K (.ref t.qI) (.ref t.pS)=some false
 gF:PySem.W.kitOne K (.ref t.qI) (.ref t.fE)=some false
 gy:PySem.W.kitOne K (.ref t.qI) (.ref t.pL)=some false
 gC:PySem.W.kitOne K (.ref t.qI) (.ref t.mj)=some false
 yZ:PySem.W.kitOne K (.ref t.qI) (.ref t.bw)=some false
 bH:PySem.W.kitOne K (.ref t.qI) (.ref t.cy)=some false
 gU:PySem.W.kitOne K (.ref t.qI) (.ref t.qI)=some true
 wW:PySem.W.kitOne K (.ref t.qI) (.type "ValueError")=some true
 dM:PySem.W.kitOne K (.type "int") (.type "bool")=some false
section
variable {P:Program} {w:World} {K:PySem.W.Frag} {mg:Str→Option Value} {base:Heap} {t:xj}
end
structure Good (N:Nat) (x:Str):Prop where
 lo:1≤x.length
 hi:x.length≤N
 as:asc x
structure CF (K:PySem.W.Frag) (C fI:Addr):Prop where
 cl:cv K C
 nl:qH K C "label"
 nw:qH K C "who"
 na:qH K C "act"
 nt:qH K C "turns"
 nr:qH K C "room"
 Fg:Mk K C fI
noncomputable def f3 (l w a:Str):List (Str × V):=[("label",.str l),("who",.str w),("act",.str a)]
noncomputable def f4 (l w a r:Str):List (Str × V):=[("label",.str l),("who",.str w),("act",.str a),("room",.str r)]
noncomputable def f5 (l w a:Str) (n:Int) (r:Str):List (Str × V):=[("label",.str l),("who",.str w),("act",.str a),("turns",.int n),("room",.str r)]
theorem n1:¬(("label" : Str) = "who"):=by decide +kernel
theorem n2:¬(("label" : Str) = "act"):=by decide +kernel
theorem n3:¬(("who" : Str) = "act"):=by decide +kernel
theorem n4:¬(("label" : Str) = "room"):=by decide +kernel
theorem n5:¬(("who" : Str) = "room"):=by decide +kernel
theorem n6:¬(("act" : Str) = "room"):=by decide +kernel
theorem n7:¬(("label" : Str) = "turns"):=by decide +kernel
theorem n8:¬(("who" : Str) = "turns"):=by decide +kernel
theorem n9:¬(("act" : Str) = "turns"):=by decide +kernel
theorem HL:¬(("turns" : Str) = "room"):=by decide +kernel
theorem put3 (l w a:Str):qP "act" (.str a) (qP "who" (.str w) (qP "label" (.str l) []))=f3 l w a:=by
 simp only[qP,f3,if_neg n1,if_neg n2,if_neg n3]
theorem Gz (l w a r:Str):qP "room" (.str r) (f3 l w a)=f4 l w a r:=by
 simp only[qP,f3,f4,if_neg n4,if_neg n5,if_neg n6]
theorem Bk (l w a:Str) (n:Int) (r:Str):qP "room" (.str r) (qP "turns" (.int n) (f3 l w a))=f5 l w a n r:=by
 simp only[qP,f3,f5,if_neg n7,if_neg n8,if_neg n9,if_neg n4,if_neg n5,if_neg n6,if_neg HL]
noncomputable def V1 (k:Int) (l w a:Str) (n:Int) (r:Str):List (Str × V):=if k=0 then f5 l w a n r else if k=2∨k=3 then f4 l w a r else f3 l w a
theorem xb {x:Str} {v:V} {r:List (Str × V)}:List.lookup x ((x,v) :: r)=some v:=by simp [List.lookup]
theorem ka {x y:Str} {v:V} {r:List (Str × V)} (h:¬(x=y)):List.lookup x ((y,v) :: r)=List.lookup x r:=by
 have:(x == y)=false:=beq_eq_false_iff_ne.mpr h
 simp [List.lookup,this]
theorem ir (k:Int) (l w a:Str) (n:Int) (r:Str):(V1 k l w a n r).lookup ("label" : Str)=some (.str l):=by
 unfold V1;split
 ·exact xb
 ·split<;>exact xb
noncomputable def Qb (t:xj) (k:Int):Addr:=if k=0 then t.yt else if k=1 then t.kR else if k=2 then t.bO else if k=3 then t.vb else t.x5
noncomputable def At (t:xj) (H:Hp) (p:Addr) (k:Int) (l w a:Str) (n:Int) (r:Str):Prop:=∃dx,H p=some (.ins (Qb t k) dx (V1 k l w a n r))
noncomputable def JX (K:PySem.W.Frag):Sp:=fun vs H Q _=>∃(p C dx fI:Addr) (l w a:Str),vs=[.ref p,.str l,.str w,.str a]∧CF K C fI∧H p=some (.ins C dx [])∧Q .non (upd H p (.ins C dx (f3 l w a)))
noncomputable def Kd (K:PySem.W.Frag):Sp:=fun vs H Q _=>∃(p C dx fI:Addr) (l w a r:Str),vs=[.ref p,.str l,.str w,.str a,.str r]∧CF K C fI∧H p=some (.ins C dx [])∧Q .non (upd H p (.ins C dx (f4 l w a r)))
noncomputable def Gh (K:PySem.W.Frag):Sp:=fun vs H Q _=>∃(p C dx fI:Addr) (l w a:Str) (n:Int) (r:Str),vs=[.ref p,.str l,.str w,.str a,.int n,.str r]∧CF K C fI∧H p=some (.ins C dx [])∧Q .non (upd H p (.ins C dx (f5 l w a n r)))
theorem eB {K:PySem.W.Frag} {mg:Str→Option Value} {t:xj} (T:Txt K mg t):CF K t.yt t.vq:=⟨T.eP,T.ff,T.dN,T.dS,T.fc,T.mW,T.sd⟩
theorem nz {K:PySem.W.Frag} {mg:Str→Option Value} {t:xj} (T:Txt K mg t):CF K t.kR t.qE:=⟨T.nk,T.pj,T.mG,T.mY,T.pk,T.fu,T.ux⟩
theorem Qg {K:PySem.W.Frag} {mg:Str→Option Value} {t:xj} (T:Txt K mg t):CF K t.bO t.vT:=⟨T.Qh,T.mK,T.uw,T.uv,T.mV,T.dR,T.iW⟩
theorem nj {K:PySem.W.Frag} {mg:Str→Option Value} {t:xj} (T:Txt K mg t):CF K t.vb t.ki:=⟨T.nv,T.pf,T.mM,T.mF,T.pd,T.fe,T.uk⟩
theorem a7 {K:PySem.W.Frag} {mg:Str→Option Value} {t:xj} (T:Txt K mg t):CF K t.x5 t.qE:=⟨T.rW,T.bB,T.fb,T.fh,T.bP,T.pq,T.rE⟩
theorem Yl {K:PySem.W.Frag} {mg:Str→Option Value} {t:xj} (T:Txt K mg t) (k:Int):∃fI,CF K (Qb t k) fI:=by
 unfold Qb
 split
 ·exact⟨_,eB T⟩
 split
 ·exact⟨_,nz T⟩
 split
 ·exact⟨_,Qg T⟩
 split
 ·exact⟨_,nj T⟩
 ·exact⟨_,a7 T⟩
section
variable {K:PySem.W.Frag} {mg:Str→Option Value} {t:xj} {H:Hp} {p:Addr} {k:Int} {l w a:Str} {n:Int} {r:Str} {Q:VK}
theorem At.fl (T:Txt K mg t) (h:At t H p k l w a n r):VH K H (.ref p) "label" (.str l):=by
 obtain⟨dx,e⟩:=h
 obtain⟨fI,F⟩:=Yl T k
 exact⟨p,_,dx,_,rfl,e,F.cl,F.nl,ir _ _ _ _ _ _⟩
end
section
variable {P:Program} {w:World} {K:PySem.W.Frag} {mg:Str→Option Value} {base:Heap} {t:xj}
theorem uG:qV ["self","label","who","act"] ["self","label","who","act"] (z7 jF):=⟨rfl,rfl,rfl,by decide +kernel,rfl,by decide +kernel,by decide +kernel⟩
set_option maxHeartbeats 400000 in
theorem vV (T:Txt K mg t):qW P w K mg base jW 1 t.qE t.xX ["self","label","who","act"] (JX K):=by
 refine T.k6.fn.ok uG (fun vs H Q E h=>(by obtain⟨_,_,_,_,_,_,_,rfl,_⟩:=h;rfl)) (fun cdv A outer s H vs Q E hr h=>?_)
 obtain⟨p,C,dx,fI,l,w,a,rfl,F,hp,k⟩:=h
 refine⟨_,(z8 (xS (pv 0) (pv 1) rfl)
   (z8 (xS (pv 0) (pv 2) rfl)
   (qx (xS (pv 0) (pv 3) rfl)))),?_⟩
 refine⟨_,rfl,_,rfl,p,C,dx,[],rfl,hp,F.cl,F.nl,(by show 0 < 1000;decide),?_⟩
 refine⟨_,rfl,_,rfl,p,C,dx,_,rfl,qr,F.cl,F.nw,(by show 1 < 1000;decide),?_⟩
 refine⟨_,rfl,_,rfl,p,C,dx,_,rfl,qr,F.cl,F.na,?_,?_⟩
 ·have:=xB ("who" : Str) (.str w) (qP "label" (.str l) [])
  have e:(qP ("label" : Str) (.str l) []).length=1:=rfl
  omega
 ·rw[gd,gd,put3]
  exact k
theorem tw:qV ["self","label","who","act","turns","room"] ["self","label","who","act","turns","room"] (z7 xm):=⟨rfl,rfl,rfl,by decide +kernel,rfl,by decide +kernel,by decide +kernel⟩
set_option maxHeartbeats 400000 in
theorem so (T:Txt K mg t):qW P w K mg base jW 2 t.vq t.yN ["self","label","who","act","turns","room"] (Gh K):=by
 have G_Clause_init:qW P w K mg base jW 1 t.qE t.xX ["self","label","who","act"] (JX K):=(vV T).mono (by decide)
 refine T.dz.fn.ok tw (fun vs H Q E h=>(by obtain⟨_,_,_,_,_,_,_,_,_,rfl,_⟩:=h;rfl)) (fun cdv A outer s H vs Q E hr h=>?_)
 obtain⟨p,C,dx,fI,l,w,a,n,r,rfl,F,hp,k⟩:=h
 refine⟨_,(z8 (kK (uQ rfl T.c8 T.dv G_Clause_init hr T.k6.bd .nil qY (z6 (pv 0) (z6 (pv 1) (z6 (pv 2) (z6 (pv 3) qz))))))
   (z8 (xS (pv 0) (pv 4) rfl)
   (qx (xS (pv 0) (pv 5) rfl)))),?_⟩
 refine⟨_,rfl,_,rfl,_,rfl,_,rfl,p,C,dx,fI,l,w,a,rfl,F,hp,?_⟩
 refine⟨_,rfl,_,rfl,p,C,dx,_,rfl,qr,F.cl,F.nt,(by show 3 < 1000;decide),?_⟩
 refine⟨_,rfl,_,rfl,p,C,dx,_,rfl,qr,F.cl,F.nr,?_,?_⟩
 ·have:=xB ("turns" : Str) (.int n) (f3 l w a)
  have e:(f3 l w a).length=3:=rfl
  omega
 ·rw[gd,gd,Bk]
  exact k
theorem oG:qV ["self","label","who","act","room"] ["self","label","who","act","room"] (z7 xT):=⟨rfl,rfl,rfl,by decide +kernel,rfl,by decide +kernel,by decide +kernel⟩
set_option maxHeartbeats 400000 in
theorem oz (T:Txt K mg t):qW P w K mg base jW 2 t.vT t.bh ["self","label","who","act","room"] (Kd K):=by
 have G_Clause_init:qW P w K mg base jW 1 t.qE t.xX ["self","label","who","act"] (JX K):=(vV T).mono (by decide)
 refine T.cP.fn.ok oG (fun vs H Q E h=>(by obtain⟨_,_,_,_,_,_,_,_,rfl,_⟩:=h;rfl)) (fun cdv A outer s H vs Q E hr h=>?_)
 obtain⟨p,C,dx,fI,l,w,a,r,rfl,F,hp,k⟩:=h
 refine⟨_,(z8 (kK (uQ rfl T.c8 T.dv G_Clause_init hr T.k6.bd .nil qY (z6 (pv 0) (z6 (pv 1) (z6 (pv 2) (z6 (pv 3) qz))))))
   (qx (xS (pv 0) (pv 4) rfl))),?_⟩
 refine⟨_,rfl,_,rfl,_,rfl,_,rfl,p,C,dx,fI,l,w,a,rfl,F,hp,?_⟩
 refine⟨_,rfl,_,rfl,p,C,dx,_,rfl,qr,F.cl,F.nr,(by show 3 < 1000;decide),?_⟩
 rw[gd,Gz]
 exact k
theorem rh:qV ["self","label","who","act","room"] ["self","label","who","act","room"] (z7 j8):=⟨rfl,rfl,rfl,by decide +kernel,rfl,by decide +kernel,by decide +kernel⟩
set_option maxHeartbeats 400000 in
theorem rk (T:Txt K mg t):qW P w K mg base jW 2 t.ki t.yx ["self","label","who","act","room"] (Kd K):=by
 have G_Clause_init:qW P w K mg base jW 1 t.qE t.xX ["self","label","who","act"] (JX K):=(vV T).mono (by decide)
 refine T.fK.fn.ok rh (fun vs H Q E h=>(by obtain⟨_,_,_,_,_,_,_,_,rfl,_⟩:=h;rfl)) (fun cdv A outer s H vs Q E hr h=>?_)
 obtain⟨p,C,dx,fI,l,w,a,r,rfl,F,hp,k⟩:=h
 refine⟨_,(z8 (kK (uQ rfl T.sm T.ny G_Clause_init hr T.k6.bd .nil qY (z6 (pv 0) (z6 (pv 1) (z6 (pv 2) (z6 (pv 3) qz))))))
   (qx (xS (pv 0) (pv 4) rfl))),?_⟩
 refine⟨_,rfl,_,rfl,_,rfl,_,rfl,p,C,dx,fI,l,w,a,rfl,F,hp,?_⟩
 refine⟨_,rfl,_,rfl,p,C,dx,_,rfl,qr,F.cl,F.nr,(by show 3 < 1000;decide),?_⟩
 rw[gd,Gz]
 exact k
theorem gR {H:Hp} {x dx:Addr} {o o':HO} (hx:H x=none) (hdx:H dx=none) (hne:dx≠x):qf H (upd (upd (upd H dx (.own x)) x o) x o'):=by
 rw[gd]
 exact(qf.nN hdx).new (by rw[qB (Ne.symm hne)];exact hx)
end
theorem eE:kz.length=10∧kz.cps.toList=[48,49,50,51,52,53,54,55,56,57]:=by decide +kernel
theorem ay:qT.length=26∧qT.cps.toList.length=26∧∀c∈qT.cps.toList,c < 128:=by decide +kernel
noncomputable def has (z:Str) (c:Nat):Bool:=!(Builtin.Str.occurrences z ⟨#[c]⟩ 0 z.length 1).isEmpty
noncomputable def bR (x z:Str) (m:Int):Bool:=decide (1≤x.length) && decide ((x.length:Int)≤m) && x.cps.toList.all (has z)
noncomputable def qw (x:Str):Bool:=bR x qT 8 && !Xr (.str x) (gh.map V.str)
theorem Zg:(gh.map V.str).all fv=true:=by decide +kernel
theorem nV (c:Nat):has kz c=decide (48≤c∧c≤57):=by
 unfold has
 rw[StrLaws.found_one,eE.2]
 by_cases h:48≤c∧c≤57
 ·rw[decide_eq_true h]
  simp
  omega
 ·rw[decide_eq_false h]
  simp
  omega
noncomputable def vC (x:Str):Int:=if bR x kz 20=true∧x.cps.toList.head?≠some 48 then ((PySem.NumText.digitsVal x.cps.toList:Nat):Int) else 0
noncomputable def iI:Sp:=fun vs H Q _=>∃(x z:Str) (m:Int),vs=[.str x,.str z,.int m]∧x.length≤400∧z.length≤100∧∀H',qf H H'→Q (.bl (bR x z m)) H'
noncomputable def tV:Sp:=fun vs H Q _=>∃(x:Str),vs=[.str x]∧x.length≤400∧∀H',qf H H'→Q (.bl (qw x)) H'
noncomputable def JV:Sp:=fun vs H Q _=>∃(x:Str),vs=[.str x]∧x.length≤400∧∀H',qf H H'→Q (.int (vC x)) H'
theorem Z9 {x z:Str} {bs:List Bool} (hl:bs.length=x.length) (h:∀(i:Nat) (c:Nat) (b:Bool),x.cps.toList[i]?=some c→bs[i]?=some b→b=has z c):bs.all id=x.cps.toList.all (has z):=by
 have e:bs=x.cps.toList.map (has z):=by
  apply List.ext_getElem?
  intro i
  rw[List.getElem?_map]
  cases q:x.cps.toList[i]? with
  | none=>
   have:x.cps.toList.length≤i:=List.getElem?_eq_none_iff.mp q
   exact List.getElem?_eq_none_iff.mpr (by rw[hl];simpa [Str.length] using this)
  | some c=>
   have hi:i < bs.length:=by
    rw[hl]
    have:=(List.getElem?_eq_some_iff.mp q).1
    simpa [Str.length] using this
   rw[List.getElem?_eq_getElem hi,Option.map_some,h i c _ q (List.getElem?_eq_getElem hi)]
 rw[e,List.all_map]
 rfl
theorem d0 {x:Str} {m:Int} (h:bR x kz m=true):1≤x.length∧(x.length:Int)≤m∧PySem.NumText.AllDigits x.cps.toList:=by
 unfold bR at h
 rw[Bool.and_eq_true,Bool.and_eq_true] at h
 obtain⟨⟨h1,h2⟩,h3⟩:=h
 refine⟨of_decide_eq_true h1,of_decide_eq_true h2,fun c hc=>?_⟩
 have:=List.all_eq_true.mp h3 c hc
 rw[nV] at this
 exact of_decide_eq_true this
theorem nX {x:Str} (h:1≤x.length):∃c,x.cps.toList.head?=some c∧rz x.cps.toList 0=some c:=by
 have hl:0 < x.cps.toList.length:=by have h':1≤x.cps.size:=h;rw[Array.length_toList];omega
 cases e:x.cps.toList with
 | nil=>rw[e] at hl;simp at hl
 | cons c r=>exact⟨c,rfl,lC (xs:=c :: r) (j:=0) (v:=c) rfl⟩
theorem Wd (c d:Nat):decide (V.str ⟨#[c]⟩=V.str ⟨#[d]⟩)=decide (c=d):=by
 by_cases h:c=d
 ·subst h;simp
 ·have:¬(V.str ⟨#[c]⟩=V.str ⟨#[d]⟩):=fun q=>h (by injection q with q;injection q with q;simpa using q)
  rw[decide_eq_false this,decide_eq_false h]
theorem J4:("0" : Str)=⟨#[48]⟩:=by decide +kernel
section
variable {P:Program} {w:World} {K:PySem.W.Frag} {mg:Str→Option Value} {base:Heap} {t:xj}
theorem Xi (T:Txt K mg t) (H:Hp):fz K H t.cN (gh.map V.str):=.inr T.Q0
theorem mI:qV ["word","signs","most"] ["word","signs","most"] (z7 qA):=⟨rfl,rfl,rfl,by decide +kernel,rfl,by decide +kernel,by decide +kernel⟩
set_option maxHeartbeats 400000 in
theorem gm (T:Txt K mg t):qW P w K mg base jW 1 t.xY t.xW ["word","signs","most"] iI:=by
 refine T.jO.fn.ok mI (fun vs H Q E h=>(by obtain⟨_,_,_,rfl,_⟩:=h;rfl)) (fun cdv A outer s H vs Q E hr h=>?_)
 obtain⟨x,z,m,rfl,hx,hz,k⟩:=h
 refine⟨_,(z8 (qM (PW.pt (vU (ql ur (qG mv rfl T.kf PySem.boot_len (z6 (pv 0) qz)) z9 (qe _)) (vI (ql ll (qG mv rfl T.kf PySem.boot_len (z6 (pv 0) qz)) (pv 2) (qe _)))))
    (qx (qt wF)) qo)
   (qx (qt (qG (gs rfl) rfl T.eV PyProof.Rows.boot_all (z6 (mR (osc:=z7 qA) (N:=["word","signs","most"]) (names:=["signs"]) (qS:=[1]) rfl rfl rfl ⟨rfl,by decide +kernel,by decide +kernel,by decide +kernel,rfl,rfl,by decide +kernel,by decide +kernel⟩ (WX (pv 0)) (fun _ _ _=>(kX Zo (pv 0) (pv 1) rfl))) qz))))),?_⟩
 refine⟨_,rfl,x,rfl,qp (by omega),_,_,rfl,rfl,_,rfl,?_⟩
 refine jy (fun h1=>sv ?_) (fun h1=>?_)
 ·have e:bR x z m=false:=by
   have:¬(1≤x.length):=by have:=of_decide_eq_true h1;omega
   simp [bR,this]
  have:=k H (qf.refl H)
  rw[e] at this
  exact this
 refine⟨_,rfl,x,rfl,qp (by omega),_,rfl,_,_,rfl,rfl,_,rfl,?_⟩
 refine jy (fun h2=>?_) (fun h2=>?_)
 ·have e:bR x z m=false:=by
   have:¬((x.length:Int)≤m):=by have:=of_decide_eq_true h2;omega
   simp [bR,this]
  have:=k H (qf.refl H)
  rw[e] at this
  exact this
 have e1:1≤x.length:=by have:¬((x.length:Int) < 1):=fun q=>h1 (decide_eq_true q);omega
 have e2:(x.length:Int)≤m:=by have:¬(m < (x.length:Int)):=fun q=>h2 (decide_eq_true q);omega
 refine⟨_,rfl,x,rfl,gY (Jl (z:=x)) (fun _ y v=>∀c,y=.str ⟨#[c]⟩→v=.bl (has z c)) (qp (by simp [Str.length] at hx ⊢;omega)) ?_ ?_⟩
 ·intro i y H' Q' hy s' kk
  rw[List.getElem?_map] at hy
  cases q:x.cps.toList[i]? with
  | none=>rw[q] at hy;cases hy
  | some c=>
   rw[q] at hy
   cases hy
   refine⟨_,rfl,_,rfl,_,_,rfl,rfl,kk _ _ (qf.refl _) fun c' e=>?_⟩
   have:c=c':=by simpa using e
   subst this
   rfl
 ·intro D H' ys s' hD hy hlen hp
  have hlen':ys.length=x.length:=by simpa [Str.length] using hlen
  obtain⟨bs,rfl⟩:=lU ys fun v hv=>by
   obtain⟨i,hi,e⟩:=List.getElem_of_mem hv
   have hix:i < x.cps.toList.length:=by rw[hlen'] at hi;simpa [Str.length] using hi
   exact⟨_,hp i _ v (by rw[List.getElem?_map,List.getElem?_eq_getElem hix];rfl) (by rw[List.getElem?_eq_getElem hi,e]) _ rfl⟩
  refine⟨D,bs,rfl,jx.of hy,?_⟩
  have e3:bs.all id=x.cps.toList.all (has z):=Z9 (by simpa using hlen') fun i c b q1 q2=>by
   have:=hp i (.str ⟨#[c]⟩) (.bl b) (by rw[List.getElem?_map,q1];rfl) (by rw[List.getElem?_map,q2];rfl) c rfl
   simpa using this
  have:=k H' s'
  rw[show bR x z m=bs.all id by rw[e3];simp [bR,e1,e2]] at this
  exact this
theorem tu:qV ["word"] ["word"] (z7 xl):=⟨rfl,rfl,rfl,by decide +kernel,rfl,by decide +kernel,by decide +kernel⟩
set_option maxHeartbeats 400000 in
theorem bX (T:Txt K mg t):qW P w K mg base jW 2 t.vj t.vz ["word"] tV:=by
 have G_v_written_with:qW P w K mg base jW 1 t.xY t.xW ["word","signs","most"] iI:=(gm T).mono (by decide)
 refine T.jA.fn.ok tu (fun vs H Q E h=>(by obtain⟨_,rfl,_⟩:=h;rfl)) (fun cdv A outer s H vs Q E hr h=>?_)
 obtain⟨x,rfl,hx,k⟩:=h
 refine⟨_,(qx (qt (sF (qZ G_v_written_with hr rfl T.jO.mg T.jO.fn.kp T.jO.bd .nil qY (z6 (pv 0) (z6 (jm rfl (T.rB).choose_spec (v:=.str qT) ⟨_,rfl⟩) (z6 (jm rfl (T.b7).choose_spec (v:=.int 8) ⟨_,rfl⟩) qz)))) (sR (kX (lg (K:=K) rfl) (pv 0) (jm rfl T.Qa (v:=.ref t.cN) rfl) rfl))))),?_⟩
 refine⟨_,rfl,x,qT,8,rfl,hx,by decide +kernel,fun H' s'=>⟨_,rfl,?_⟩⟩
 refine jy (fun h1=>?_) (fun h1=>?_)
 ·refine⟨_,rfl,_,_,rfl,.inr (Xi T H'),rfl,Zg,?_⟩
  have:=k H' s'
  rw[show qw x = !Xr (.str x) (gh.map V.str) by simp [qw,h1]] at this
  exact this
 ·have:=k H' s'
  rw[show qw x=false by simp [qw,h1]] at this
  exact this
theorem uF:qV ["word"] ["word"] (z7 jC):=⟨rfl,rfl,rfl,by decide +kernel,rfl,by decide +kernel,by decide +kernel⟩
set_option maxHeartbeats 400000 in
theorem pX (T:Txt K mg t):qW P w K mg base jW 2 t.kM t.kB ["word"] JV:=by
 have G_v_written_with:qW P w K mg base jW 1 t.xY t.xW ["word","signs","most"] iI:=(gm T).mono (by decide)
 refine T.xF.fn.ok uF (fun vs H Q E h=>(by obtain⟨_,rfl,_⟩:=h;rfl)) (fun cdv A outer s H vs Q E hr h=>?_)
 obtain⟨x,rfl,hx,k⟩:=h
 refine⟨_,(z8 (qM (PW.pt (vU (yB (j6 (qZ G_v_written_with hr rfl T.jO.mg T.jO.fn.kp T.jO.bd .nil qY (z6 (pv 0) (z6 (jm rfl (T.rH).choose_spec (v:=.str kz) ⟨_,rfl⟩) (z6 (jm rfl (T.bA).choose_spec (v:=.int 20) ⟨_,rfl⟩) qz)))))) (vI (ql jk (qJ b9 (pv 0) z9 (fun _ _=>rfl)) qq (qe _)))))
    (qx (qt z9)) qo)
   (qx (qt (jI rq rfl T.fO PyProof.Rows.boot_int (z6 (pv 0) qz))))),?_⟩
 refine⟨_,rfl,x,kz,20,rfl,hx,by rw[eE.1];decide,fun H' s'=>⟨_,rfl,?_⟩⟩
 cases hw:bR x kz 20 with
 | false=>
  refine sv (sv ?_)
  have:=k H' s'
  rw[show vC x=0 by unfold vC;rw[if_neg (by rw[hw];simp)]] at this
  exact this
 | true=>
  refine yR ?_
  obtain⟨h1,h2,h3⟩:=d0 hw
  obtain⟨c,e1,e2⟩:=nX h1
  refine⟨_,rfl,x,_,c,rfl,rfl,qp (by omega),e2,rfl,_,rfl,?_⟩
  have hz:=Wd c 48
  rw[←J4] at hz
  refine jy (fun h4=>?_) (fun h4=>?_)
  ·have h4':decide (V.str ⟨#[c]⟩=V.str ("0" : Str))=true:=h4
   rw[hz] at h4'
   have hc:c=48:=of_decide_eq_true h4'
   have:=k H' s'
   rw[show vC x=0 by unfold vC;rw[if_neg (by rw[e1,hc];simp)]] at this
   exact this
  ·have hc:c≠48:=fun q=>h4 (by show decide (V.str ⟨#[c]⟩=V.str ("0" : Str))=true;rw[hz];exact decide_eq_true q)
   have hne:x.cps.toList≠[]:=fun q=>by rw[q] at e1;cases e1
   refine⟨_,rfl,x,_,rfl,PySem.intText_digits h3 hne (by omega),by omega,?_⟩
   have:=k H' s'
   rw[show vC x=((PySem.NumText.digitsVal x.cps.toList:Nat):Int) by unfold vC;rw[if_pos ⟨hw,by rw[e1];simpa using hc⟩]] at this
   exact this
end
local macro_rules | `(tactic| walk_at "at")=>`(tactic| first | assumption | exact At.same (by assumption) (by walk_at "sm"))
local macro_rules | `(tactic| walk_at "fld")=>`(tactic| first
 | with_reducible exact At.fl (by assumption) (by walk_at "at") | with_reducible exact At.fw (by assumption) (by walk_at "at") | with_reducible exact At.fa (by assumption) (by walk_at "at")
 | with_reducible exact At.ft (by assumption) (by walk_at "at") | with_reducible exact At.fr (by assumption) (by walk_at "at") (by first | assumption | omega))
section
variable {P:Program} {w:World} {K:PySem.W.Frag} {mg:Str→Option Value} {base:Heap} {t:xj}
end
noncomputable def wV (x p:Str):Bool:=if p = "NAME" then qw x else if p = "WHO" then qw x || decide (x = "any") else if p = "NUMBER" then decide (vC x > 0) else decide (x=p)
noncomputable def kx (ws fs:List Str):Bool:=decide (ws.length=fs.length) && (ws.zip fs).all fun p=>wV p.1 p.2
noncomputable def wa (ws:List Str) (m:Int):Bool:=decide (1≤ws.length) && decide ((ws.length:Int)≤m) && ws.all qw
structure Sh (ws:List Str):Prop where
 lE:ws.length≤410
 short:∀x∈ws,x.length≤400
theorem Sh.drop {ws:List Str} (h:Sh ws) (n:Nat):Sh (ws.drop n):=⟨by have:=h.lE;rw[List.length_drop];omega,fun x hx=>h.short x (List.mem_of_mem_drop hx)⟩
theorem Sh.take {ws:List Str} (h:Sh ws) (n:Nat):Sh (ws.take n):=⟨by have:=h.lE;rw[List.length_take];omega,fun x hx=>h.short x (List.mem_of_mem_take hx)⟩
theorem p7 (a b:Str):decide (V.str a=V.str b)=decide (a=b):=by
 by_cases h:a=b
 ·subst h;simp
 ·have:¬(V.str a=V.str b):=fun q=>h (by injection q)
  rw[decide_eq_false this,decide_eq_false h]
theorem cH {a b:Str} (h:decide (V.str a=V.str b)=true):a=b:=by rw[p7] at h;exact of_decide_eq_true h
theorem cB {a b:Str} (h:¬decide (V.str a=V.str b)=true):a≠b:=fun q=>h (by rw[p7];exact decide_eq_true q)
theorem aD {a b:Str} (h:(!decide (V.str a=V.str b))=true):a≠b:=fun q=>by subst q;simp at h
theorem aM {a b:Str} (h:¬(!decide (V.str a=V.str b))=true):a=b:=by
 rw[p7] at h
 by_cases q:a=b
 ·exact q
 ·exact absurd (by rw[decide_eq_false q];rfl) h
theorem ud {b:Bool} (h:(!b)=true):b=false:=by cases b;rfl;cases h
theorem um {b:Bool} (h:¬(!b)=true):b=true:=by cases b;exact absurd rfl h;rfl
theorem pU {ws:List Str} {i:Nat} (h:i < ws.length):ws.getD i ""∈ws:=by
 rw[List.getD_eq_getElem?_getD,List.getElem?_eq_getElem h]
 exact List.getElem_mem h
noncomputable def aH:Sp:=fun vs H Q _=>∃(x p:Str),vs=[.str x,.str p]∧x.length≤400∧∀H',qf H H'→Q (.bl (wV x p)) H'
noncomputable def tX (K:PySem.W.Frag):Sp:=fun vs H Q _=>∃(a b:Addr) (ws fs:List Str),vs=[.ref a,.ref b]∧jx K H a (ws.map V.str)∧jx K H b (fs.map V.str)∧Sh ws∧∀H',qf H H'→Q (.bl (kx ws fs)) H'
noncomputable def Je (K:PySem.W.Frag):Sp:=fun vs H Q _=>∃(a:Addr) (m:Int) (ws:List Str),vs=[.ref a,.int m]∧jx K H a (ws.map V.str)∧Sh ws∧∀H',qf H H'→Q (.bl (wa ws m)) H'
theorem all_map {α:Type} {xs:List α} {bs:List Bool} {f:α→Bool} (hl:bs.length=xs.length) (h:∀(i:Nat) x b,xs[i]?=some x→bs[i]?=some b→b=f x):bs.all id=xs.all f:=by
 have e:bs=xs.map f:=by
  apply List.ext_getElem?
  intro i
  rw[List.getElem?_map]
  cases q:xs[i]? with
  | none=>exact List.getElem?_eq_none_iff.mpr (by rw[hl];exact List.getElem?_eq_none_iff.mp q)
  | some c=>
   have hi:i < bs.length:=by rw[hl];exact(List.getElem?_eq_some_iff.mp q).1
   rw[List.getElem?_eq_getElem hi,Option.map_some,h i c _ q (List.getElem?_eq_getElem hi)]
 rw[e,List.all_map]
 rfl
section
variable {P:Program} {w:World} {K:PySem.W.Frag} {mg:Str→Option Value} {base:Heap} {t:xj}
theorem cx:qV ["word","place"] ["word","place"] (z7 ja):=⟨rfl,rfl,rfl,by decide +kernel,rfl,by decide +kernel,by decide +kernel⟩
set_option maxHeartbeats 400000 in
theorem d8 (T:Txt K mg t):qW P w K mg base jW 3 t.vo t.vm ["word","place"] aH:=by
 have G_v_is_name:qW P w K mg base jW 2 t.vj t.vz ["word"] tV:=(bX T).mono (by decide)
 have G_v_number_of:qW P w K mg base jW 2 t.kM t.kB ["word"] JV:=(pX T).mono (by decide)
 refine T.vF.fn.ok cx (fun vs H Q E h=>(by obtain⟨_,_,rfl,_⟩:=h;rfl)) (fun cdv A outer s H vs Q E hr h=>?_)
 obtain⟨x,p,rfl,hx,k⟩:=h
 refine⟨_,(z8 (qM (ql jk (pv 1) qq (qe _))
    (qx (qt (qZ G_v_is_name hr rfl T.jA.mg T.jA.fn.kp T.jA.bd .nil qY (z6 (pv 0) qz)))) qo)
   (z8 (qM (ql jk (pv 1) qq (qe _))
    (qx (qt (Y9 (qZ G_v_is_name hr rfl T.jA.mg T.jA.fn.kp T.jA.bd .nil qY (z6 (pv 0) qz)) (sR (kX jk (pv 0) qq (qe _)))))) qo)
   (z8 (qM (ql jk (pv 1) qq (qe _))
    (qx (qt (kX ll (qZ G_v_number_of hr rfl T.xF.mg T.xF.fn.kp T.xF.bd .nil qY (z6 (pv 0) qz)) z9 (qe _)))) qo)
   (qx (qt (kX jk (pv 0) (pv 1) (qe _))))))),?_⟩
 walk_at "rd"
 refine jy (fun h1=>?_) (fun h1=>?_)
 ·have e:=cH h1
  subst e
  walk_at "rd"
  intro H' s'
  have:=k H' s'
  unfold wV at this
  rw[if_pos rfl] at this
  exact this
 have n1:=cB h1
 walk_at "rd"
 refine jy (fun h2=>?_) (fun h2=>?_)
 ·have e:=cH h2
  subst e
  walk_at "rd"
  intro H' s'
  have:=k H' s'
  unfold wV at this
  rw[if_neg n1,if_pos rfl] at this
  refine⟨_,rfl,?_⟩
  refine jy (fun h3=>?_) (fun h3=>?_)
  ·rw[h3] at this;exact this
  ·walk_at "rd"
   rw[p7]
   rw[Bool.eq_false_iff.mpr h3] at this
   exact this
 have n2:=cB h2
 walk_at "rd"
 refine jy (fun h3=>?_) (fun h3=>?_)
 ·have e:=cH h3
  subst e
  walk_at "rd"
  intro H' s'
  walk_at "rd"
  have:=k H' s'
  unfold wV at this
  rw[if_neg n1,if_neg n2,if_pos rfl] at this
  exact this
 have n3:=cB h3
 walk_at "rd"
 have:=k H (qf.refl H)
 unfold wV at this
 rw[if_neg n1,if_neg n2,if_neg n3] at this
 rw[p7]
 exact this
theorem uP:qV ["words","form"] ["words","form"] (z7 jn):=⟨rfl,rfl,rfl,by decide +kernel,rfl,by decide +kernel,by decide +kernel⟩
set_option maxHeartbeats 400000 in
theorem yH (T:Txt K mg t):qW P w K mg base jW 4 t.x9 t.x8 ["words","form"] (tX K):=by
 have G_v_fits_place:qW P w K mg base jW 3 t.vo t.vm ["word","place"] aH:=(d8 T).mono (by decide)
 refine T.qD.fn.ok uP (fun vs H Q E h=>(by obtain⟨_,_,_,_,rfl,_⟩:=h;rfl)) (fun cdv A outer s H vs Q E hr h=>?_)
 obtain⟨a,b,ws,fs,rfl,hA,hB,hS,k⟩:=h
 refine⟨_,(z8 (qM (ql ue (qG (jv (K:=K) rfl) rfl T.kf PySem.boot_len (z6 (pv 0) qz)) (qG (jv (K:=K) rfl) rfl T.kf PySem.boot_len (z6 (pv 1) qz)) (qe _))
    (qx (qt wF)) qo)
   (qx (qt (qG (gs rfl) rfl T.eV PyProof.Rows.boot_all (z6 (lQ (osc:=z7 jn) (N:=["words","form"]) (xs:=["word","place"]) (names:=[]) (qS:=[]) rfl rfl rfl ⟨rfl,by decide +kernel,by decide +kernel,by decide +kernel,by decide +kernel,rfl,by decide +kernel,by decide +kernel⟩ (XN (K:=K) rfl rfl T.KC (z6 (pv 0) (z6 (pv 1) qz)) PyProof.Rows.boot_zip) (fun _ _ _=>(cK (K:=K) (n:=2) rfl rfl (wM (xR (i:=0) (show (["word","place"]:List Str).Nodup from by decide +kernel) rfl (.inl (nM rfl)) (.inr (nM rfl))) (wM (xR (i:=1) (show (["word","place"]:List Str).Nodup from by decide +kernel) rfl (.inl (nM rfl)) (.inr (nM rfl))) cV)) rfl rfl)) (fun _ _ _=>aJ) (fun _ _ _=>(qZ G_v_fits_place hr rfl T.vF.mg T.vF.fn.kp T.vF.bd .nil qY (z6 (pv 0) (z6 (pv 1) qz))))) qz))))),?_⟩
 refine⟨_,rfl,a,_,rfl,.inl hA,_,rfl,b,_,rfl,.inl hB,rfl,_,rfl,?_⟩
 rw[List.length_map,List.length_map]
 refine jy (fun h1=>?_) (fun h1=>?_)
 ·have:=k H (qf.refl H)
  have e:¬ws.length=fs.length:=by
   intro q;rw[q] at h1;simp at h1
  unfold kx at this
  rw[decide_eq_false e] at this
  exact this
 have hl:ws.length=fs.length:=by
  by_cases q:ws.length=fs.length
  ·exact q
  ·exact absurd (by simp;omega) h1
 refine⟨_,rfl,_,rfl,a,b,_,_,rfl,hA,hB,?_⟩
 refine Qm hA hB (fun x y v=>∀x' y',x=.str x'→y=.str y'→v=.bl (wV x' y')) (qp (by have:=hS.lE;rw[List.length_map];omega)) ?_ ?_
 ·intro i x y H' Q' e1 e2 s' kk
  rw[List.getElem?_map] at e1 e2
  cases q1:ws[i]? with
  | none=>rw[q1] at e1;cases e1
  | some x'=>
   cases q2:fs[i]? with
   | none=>rw[q2] at e2;cases e2
   | some y'=>
    rw[q1] at e1
    rw[q2] at e2
    cases e1
    cases e2
    refine⟨_,rfl,_,rfl,x',y',rfl,hS.short x' (List.mem_of_getElem? q1),fun H4 s4=>kk _ _ s4 fun a b ea eb=>?_⟩
    cases ea
    cases eb
    rfl
 ·intro D H' vs s' hD hv hvl hp
  rw[List.length_map,List.length_map,hl,Nat.min_self] at hvl
  obtain⟨bs,rfl⟩:=lU vs fun v hv'=>by
   obtain⟨i,hi,e⟩:=List.getElem_of_mem hv'
   have h1:i < ws.length:=by omega
   have h2:i < fs.length:=by omega
   exact⟨_,hp i _ _ v (by rw[List.getElem?_map,List.getElem?_eq_getElem h1];rfl) (by rw[List.getElem?_map,List.getElem?_eq_getElem h2];rfl) (by rw[List.getElem?_eq_getElem hi,e]) _ _ rfl rfl⟩
  refine⟨D,bs,rfl,jx.of hv,?_⟩
  have e:bs.all id=(ws.zip fs).all fun p=>wV p.1 p.2:=all_map (by rw[List.length_zip,hl,Nat.min_self];simpa using hvl) fun i p b q1 q2=>by
   rw[List.getElem?_zip_eq_some] at q1
   have:=hp i _ _ (.bl b) (by rw[List.getElem?_map,q1.1];rfl) (by rw[List.getElem?_map,q1.2];rfl) (by rw[List.getElem?_map,q2];rfl) _ _ rfl rfl
   simpa using this
  have:=k H' s'
  unfold kx at this
  rw[decide_eq_true hl,←e] at this
  exact this
theorem uB:qV ["words","most"] ["words","most"] (z7 jt):=⟨rfl,rfl,rfl,by decide +kernel,rfl,by decide +kernel,by decide +kernel⟩
set_option maxHeartbeats 400000 in
theorem pJ (T:Txt K mg t):qW P w K mg base jW 3 t.kF t.kH ["words","most"] (Je K):=by
 have G_v_is_name:qW P w K mg base jW 2 t.vj t.vz ["word"] tV:=(bX T).mono (by decide)
 refine T.xP.fn.ok uB (fun vs H Q E h=>(by obtain⟨_,_,_,rfl,_⟩:=h;rfl)) (fun cdv A outer s H vs Q E hr h=>?_)
 obtain⟨a,m,ws,rfl,hA,hS,k⟩:=h
 refine⟨_,(qx (qt (sF (Q9 Vm Vm z9 (qG (jv (K:=K) rfl) rfl T.kf PySem.boot_len (z6 (pv 0) qz)) (pv 1)) (sR (qG (gs rfl) rfl T.eV PyProof.Rows.boot_all (z6 (mR (osc:=z7 jt) (N:=["words","most"]) (names:=[]) (qS:=[]) rfl rfl rfl ⟨rfl,by decide +kernel,by decide +kernel,by decide +kernel,rfl,rfl,by decide +kernel,by decide +kernel⟩ (gN (K:=K) rfl (pv 0)) (fun _ _ _=>(qZ G_v_is_name hr rfl T.jA.mg T.jA.fn.kp T.jA.bd .nil qY (z6 (pv 0) qz)))) qz)))))),?_⟩
 walk_at "rd"
 refine⟨a,_,rfl,.inl hA,_,_,rfl,rfl,_,rfl,?_⟩
 rw[List.length_map]
 have no:∀H',qf H H'→wa ws m=false→Q (.bl false) H':=fun H' s' e=>by have:=k H' s';rw[e] at this;exact this
 refine jy (fun h1=>?_) (fun h1=>?_)
 ·have h1':1≤ws.length:=by have:=of_decide_eq_true h1;omega
  refine⟨_,rfl,_,_,rfl,rfl,_,rfl,?_⟩
  refine jy (fun h2=>?_) (fun h2=>?_)
  ·have h2':(ws.length:Int)≤m:=of_decide_eq_true h2
   refine⟨_,rfl,a,rfl,⟨_,hA⟩,gY (de hA) (fun _ y v=>∀x,y=.str x→v=.bl (qw x)) (qp (by have:=hS.lE;rw[List.length_map];omega)) ?_ ?_⟩
   ·intro i y H' Q' e1 s' kk
    rw[List.getElem?_map] at e1
    cases q1:ws[i]? with
    | none=>rw[q1] at e1;cases e1
    | some x'=>
     rw[q1] at e1
     cases e1
     exact⟨_,rfl,x',rfl,hS.short x' (List.mem_of_getElem? q1),fun H4 s4=>kk _ _ s4 fun a ea=>by cases ea;rfl⟩
   ·intro D H' vs s' hD hv hvl hp
    rw[List.length_map] at hvl
    obtain⟨bs,rfl⟩:=lU vs fun v hv'=>by
     obtain⟨i,hi,e⟩:=List.getElem_of_mem hv'
     have h1:i < ws.length:=by omega
     exact⟨_,hp i _ v (by rw[List.getElem?_map,List.getElem?_eq_getElem h1];rfl) (by rw[List.getElem?_eq_getElem hi,e]) _ rfl⟩
    refine⟨D,bs,rfl,jx.of hv,?_⟩
    have e:bs.all id=ws.all qw:=all_map (by simpa using hvl) fun i p b q1 q2=>by
     have:=hp i _ (.bl b) (by rw[List.getElem?_map,q1];rfl) (by rw[List.getElem?_map,q2];rfl) _ rfl
     simpa using this
    have:=k H' s'
    unfold wa at this
    rw[decide_eq_true h1',decide_eq_true h2',←e] at this
    exact this
  ·refine no H (qf.refl H) ?_
   have:¬(ws.length:Int)≤m:=fun q=>h2 (decide_eq_true q)
   simp [wa,this]
 ·refine⟨false,rfl,yR ?_⟩
  refine no H (qf.refl H) ?_
  have:¬1≤ws.length:=fun q=>h1 (decide_eq_true (by omega))
  simp only[wa,decide_eq_false this,Bool.false_and]
end
noncomputable def xJ (x:Str):List Str:=Txt.split x " "
theorem tY (x:Str):1≤(xJ x).length∧(xJ x).length≤x.length + 2:=⟨PyProof.Rows.split_pos x " ",PyProof.Rows.split_le x " "⟩
theorem uU {x:Str} (h:x.length≤400):Sh (xJ x):=⟨by have:=(tY x).2;omega,fun y hy=>by have:=PyProof.Rows.part_short (x:=x) (y:=" ") hy;omega⟩
theorem yn {α:Type} (f:α→V) (xs:List α) (n:Nat):bE (xs.map f) (some (n:Int)) none=(xs.drop n).map f:=by
 unfold bE
 rw[HT.pA,HT.oY,List.length_map,←List.map_drop,←List.map_take]
 by_cases h:n≤xs.length
 ·rw[Nat.min_eq_left h,List.take_of_length_le (by rw[List.length_drop];omega)]
 ·rw[Nat.min_eq_right (by omega),Nat.sub_self,List.drop_eq_nil_of_le (Nat.le_refl _),List.drop_eq_nil_of_le (by omega)]
  rfl
theorem gG {α:Type} (f:α→V) (xs:List α) (n:Nat):bE (xs.map f) none (some (n:Int))=(xs.take n).map f:=by
 unfold bE
 rw[HT.pA,HT.oY,List.length_map,List.drop_zero,Nat.sub_zero,←List.map_take]
 by_cases h:n≤xs.length
 ·rw[Nat.min_eq_left h]
 ·rw[Nat.min_eq_right (by omega),List.take_length,List.take_of_length_le (by omega)]
noncomputable def wd (ws:List Str) (i:Nat):Str:=ws.getD i ""
noncomputable def Qi:List Str:=["let","NAME","be","NAME"]
noncomputable def cC:List Str:=["part","NAME"]
noncomputable def eA:List Str:=["NAME","NAME","must","NAME","by","NUMBER","else","NAME"]
noncomputable def lI:List Str:=["NAME","WHO","may","NAME"]
noncomputable def Xd:List Str:=["NAME","WHO","may","not","NAME","else","NAME"]
noncomputable def ip:List Str:=["NAME","WHO","by","NAME","to","NAME"]
noncomputable def jV (ws:List Str) (x:Str) (m:Int):List Str:=if wd ws 0≠x∨wa (ws.drop 1) m=false then [] else ws.drop 1
noncomputable def vG (ws:List Str):Option (Str × Str):=if ws.length=2∧Xr (.str (wd ws 0)) (jT.map V.str)=true∧qw (wd ws 1)=true then some (wd ws 0,wd ws 1) else none
noncomputable def sf (ws:List Str):Option (Str × Str):=if kx ws Qi=true then some (wd ws 1,wd ws 3) else none
noncomputable def vk (ws:List Str):Option (Str × List Str):=if kx (ws.take 2) cC=true then (if ws.length=2 then some (wd ws 1,[]) else if wd ws 2≠"in"∨wa (ws.drop 3) 12=false then none else some (wd ws 1,ws.drop 3)) else none
noncomputable def ji (ws:List Str):Option (Int × Str × Str × Str × Int × Str):=
 if kx ws eA=true then some (0,wd ws 0,wd ws 1,wd ws 3,vC (wd ws 5),wd ws 7)
 else if kx ws lI=true then some (1,wd ws 0,wd ws 1,wd ws 3,0,"")
 else if kx ws Xd=true then some (2,wd ws 0,wd ws 1,wd ws 4,0,wd ws 6)
 else if kx ws ip=true then some (3,wd ws 0,wd ws 1,wd ws 3,0,wd ws 5)
 else none
theorem gH {ws fs:List Str} (h:kx ws fs=true):ws.length=fs.length:=by
 unfold kx at h
 rw[Bool.and_eq_true] at h
 exact of_decide_eq_true h.1
noncomputable def GL (n v:Str):List (Str × V):=[("name",.str n),("value",.str v)]
noncomputable def Zx (n:Str) (a b:Addr):List (Str × V):=[("name",.str n),("rooms",.ref a),("rows",.ref b)]
theorem m1:¬(("name" : Str) = "value"):=by decide +kernel
theorem m2:¬(("name" : Str) = "rooms"):=by decide +kernel
theorem m3:¬(("name" : Str) = "rows"):=by decide +kernel
theorem m4:¬(("rooms" : Str) = "rows"):=by decide +kernel
theorem Gj (n v:Str):qP "value" (.str v) (qP "name" (.str n) [])=GL n v:=by
 simp only[qP,GL,if_neg m1]
theorem Gx (n:Str) (a b:Addr):qP "rows" (.ref b) (qP "rooms" (.ref a) (qP "name" (.str n) []))=Zx n a b:=by
 simp only[qP,Zx,if_neg m2,if_neg m3,if_neg m4]
noncomputable def BH (t:xj) (H:Hp) (p:Addr) (n v:Str):Prop:=∃dx,H p=some (.ins t.fA dx (GL n v))
noncomputable def Z1 (t:xj) (H0 H:Hp) (p:Addr) (n:Str) (rs:List Str) (ys:List V):Prop:=∃dx a b,H p=some (.ins t.jL dx (Zx n a b))∧H a=some (.lst (rs.map V.str))∧H b=some (.lst ys)∧H0 a=none∧H0 b=none
noncomputable abbrev B7 (t:xj) (H0 H:Hp) (p:Addr) (n:Str) (rs:List Str):Prop:=Z1 t H0 H p n rs []
theorem Z1.back {t:xj} {H0 H1 H:Hp} {p:Addr} {n:Str} {rs:List Str} {ys:List V} (h:Z1 t H1 H p n rs ys) (s:qf H0 H1):Z1 t H0 H p n rs ys:=by
 obtain⟨dx,a,b,e1,e2,e3,f1,f2⟩:=h
 exact⟨dx,a,b,e1,e2,e3,s.free f1,s.free f2⟩
noncomputable def Off (p:Addr) (H H':Hp):Prop:=∀b o,b≠p→H b=some o→H' b=some o
noncomputable def Gp (t:xj):Sp:=fun vs H Q _=>∃(p dx:Addr) (n v:Str),vs=[.ref p,.str n,.str v]∧H p=some (.ins t.fA dx [])∧Q .non (upd H p (.ins t.fA dx (GL n v)))
noncomputable def Kc (K:PySem.W.Frag) (t:xj):Sp:=fun vs H Q _=>∃(p dx a b:Addr) (n:Str) (xs:List Str) (ys:List V),vs=[.ref p,.str n,.ref a,.ref b]∧H p=some (.ins t.jL dx [])∧H a=some (.lst (xs.map V.str))∧H b=some (.lst ys)∧
 ∀H',Off p H H'→Z1 t H H' p n xs ys→Q .non H'
noncomputable def Vt:Sp:=fun vs H Q _=>∃(x y:Str) (m:Int),vs=[.str x,.str y,.int m]∧x.length≤400∧∀l H',qf H H'→H l=none→H' l=some (.lst ((jV (xJ x) y m).map V.str))→Q (.ref l) H'
noncomputable def JG:Sp:=fun vs H Q _=>∃(x:Str),vs=[.str x]∧x.length≤400∧∀H',qf H H'→(vG (xJ x)=none→Q .non H')∧∀p m n,vG (xJ x)=some (m,n)→H p=none→H' p=some (.tup [.str m,.str n])→Q (.ref p) H'
noncomputable def Vl (t:xj):Sp:=fun vs H Q _=>∃(x:Str),vs=[.str x]∧x.length≤400∧∀H',qf H H'→(sf (xJ x)=none→Q .non H')∧∀p n v,sf (xJ x)=some (n,v)→H p=none→BH t H' p n v→Q (.ref p) H'
noncomputable def JW (t:xj):Sp:=fun vs H Q _=>∃(x:Str),vs=[.str x]∧x.length≤400∧∀H',qf H H'→(vk (xJ x)=none→Q .non H')∧∀p n rs,vk (xJ x)=some (n,rs)→H p=none→B7 t H H' p n rs→Q (.ref p) H'
noncomputable def oF (t:xj):Sp:=fun vs H Q _=>∃(x:Str),vs=[.str x]∧x.length≤400∧∀H',qf H H'→(ji (xJ x)=none→Q .non H')∧∀p k l u a n r,ji (xJ x)=some (k,l,u,a,n,r)→H p=none→At t H' p k l u a n r→Q (.ref p) H'
theorem gp {H:Hp} {p dx:Addr} {o o2:HO} (hp:H p=none) (hdx:H dx=none):qf H (upd (upd H dx o) p o2):=fun b u e=>by rw[qB (qm e hp),qB (qm e hdx)];exact e
theorem nL {H H':Hp} {p dx:Addr} {o o2:HO} (hp:H p=none) (hdx:H dx=none) (f:Off p (upd (upd H dx o) p o2) H'):qf H H':=fun b u e=>f b u (qm e hp) (gp hp hdx b u e)
section
variable {P:Program} {w:World} {K:PySem.W.Frag} {mg:Str→Option Value} {base:Heap} {t:xj}
theorem QL (T:Txt K mg t) (H:Hp):fz K H t.mZ (jT.map V.str):=.inr T.ae
theorem iV:(jT.map V.str).all fv=true:=by decide +kernel
theorem oH:qV ["self","name","value"] ["self","name","value"] (z7 xI):=⟨rfl,rfl,rfl,by decide +kernel,rfl,by decide +kernel,by decide +kernel⟩
set_option maxHeartbeats 400000 in
theorem oq (T:Txt K mg t):qW P w K mg base jW 1 t.yo t.bp ["self","name","value"] (Gp t):=by
 refine T.cM.fn.ok oH (fun vs H Q E h=>(by obtain⟨_,_,_,_,rfl,_⟩:=h;rfl)) (fun cdv A outer s H vs Q E hr h=>?_)
 obtain⟨p,dx,n,v,rfl,hp,k⟩:=h
 refine⟨_,(z8 (xS (pv 0) (pv 1) rfl)
   (qx (xS (pv 0) (pv 2) rfl))),?_⟩
 refine⟨_,rfl,_,rfl,p,_,dx,[],rfl,hp,T.ix,T.dO,(by show 0 < 1000;decide),?_⟩
 refine⟨_,rfl,_,rfl,p,_,dx,_,rfl,qr,T.ix,T.mH,(by show 1 < 1000;decide),?_⟩
 rw[gd,Gj]
 exact k
theorem tm:qV ["self","name","rooms","rows"] ["self","name","rooms","rows"] (z7 xr):=⟨rfl,rfl,rfl,by decide +kernel,rfl,by decide +kernel,by decide +kernel⟩
set_option maxHeartbeats 400000 in
theorem bJ (T:Txt K mg t):qW P w K mg base jW 1 t.km t.k9 ["self","name","rooms","rows"] (Kc K t):=by
 refine T.ym.fn.ok tm (fun vs H Q E h=>(by obtain⟨_,_,_,_,_,_,_,rfl,_⟩:=h;rfl)) (fun cdv A outer s H vs Q E hr h=>?_)
 obtain⟨p,dx,a,b,n,xs,ys,rfl,hp,hA,hB,k⟩:=h
 refine⟨_,(z8 (xS (pv 0) (pv 1) rfl)
   (z8 (xS (pv 0) (jI (pe (K:=K) rfl) rfl T.dk PyProof.Rows.boot_list (z6 (pv 2) qz)) rfl)
   (qx (xS (pv 0) (jI (pe (K:=K) rfl) rfl T.dk PyProof.Rows.boot_list (z6 (pv 3) qz)) rfl)))),?_⟩
 have na:a≠p:=dI hA hp (by intro z;cases z)
 have nb:b≠p:=dI hB hp (by intro z;cases z)
 refine⟨_,rfl,_,rfl,p,_,dx,[],rfl,hp,T.bg,T.yy,(by show 0 < 1000;decide),?_⟩
 have o1:Off p H (upd H p (.ins t.jL dx (qP "name" (.str n) []))):=fun c o hc e=>by rw[qB hc];exact e
 generalize hH1:upd H p (.ins t.jL dx (qP "name" (.str n) []))=H1 at o1 ⊢
 have e1:H1 p=some (.ins t.jL dx (qP "name" (.str n) [])):=by rw[←hH1];exact qr
 refine⟨_,rfl,a,_,rfl,.inl (jx.of (o1 _ _ na hA)),?_⟩
 intro q1 H2 s2 hq1 e2
 refine⟨_,rfl,p,_,dx,_,rfl,s2 _ _ e1,T.bg,T.gQ,(by show 1 < 1000;decide),?_⟩
 have nq1:q1≠p:=Ne.symm (qm e1 hq1)
 have o2:Off p H2 (upd H2 p (.ins t.jL dx (qP "rooms" (.ref q1) (qP "name" (.str n) [])))):=fun c o hc e=>by rw[qB hc];exact e
 generalize hH3:upd H2 p (.ins t.jL dx (qP "rooms" (.ref q1) (qP "name" (.str n) [])))=H3 at o2 ⊢
 have e3:H3 p=some (.ins t.jL dx (qP "rooms" (.ref q1) (qP "name" (.str n) []))):=by rw[←hH3];exact qr
 refine⟨_,rfl,b,_,rfl,.inl (jx.of (o2 _ _ nb (s2 _ _ (o1 _ _ nb hB)))),?_⟩
 intro q2 H4 s4 hq2 e4
 refine⟨_,rfl,p,_,dx,_,rfl,s4 _ _ e3,T.bg,T.mP,?_,?_⟩
 ·have:=xB ("rooms" : Str) (.ref q1) (qP "name" (.str n) [])
  have e:(qP ("name" : Str) (.str n) []).length=1:=rfl
  omega
 have nq2:q2≠p:=Ne.symm (qm e3 hq2)
 rw[Gx]
 refine k _ (fun c o hc e=>by rw[qB hc];exact s4 _ _ (o2 _ _ hc (s2 _ _ (o1 _ _ hc e)))) ⟨dx,q1,q2,qr,?_,?_,?_,?_⟩
 ·rw[qB nq1];exact s4 _ _ (o2 _ _ nq1 e2)
 ·rw[qB nq2];exact e4
 ·rw[←hH1,qB nq1] at hq1;exact hq1
 ·have z:H2 q2=none:=by rw[←hH3,qB nq2] at hq2;exact hq2
  have z1:=s2.free z
  rw[←hH1,qB nq2] at z1;exact z1
theorem fJ:qV ["row","word","most","words"] ["row","word","most"] (z7 j9):=⟨rfl,rfl,rfl,by decide +kernel,rfl,by decide +kernel,by decide +kernel⟩
set_option maxHeartbeats 400000 in
theorem rg (T:Txt K mg t):qW P w K mg base jW 4 t.yw t.yk ["row","word","most"] Vt:=by
 have G_v_are_names:qW P w K mg base jW 3 t.kF t.kH ["words","most"] (Je K):=(pJ T).mono (by decide)
 refine T.yD.fn.ok fJ (fun vs H Q E h=>(by obtain⟨_,_,_,rfl,_⟩:=h;rfl)) (fun cdv A outer s H vs Q E hr h=>?_)
 obtain⟨x,y,m,rfl,hx,k⟩:=h
 refine⟨_,(z8 (qi (i:=3) fJ.nd rfl (Or.inl rfl) (vw PySem.F.plainAttrs_str PySem.F.slot_str_split PySem.F.type_str_split gL (pv 0) (z6 qq qz)))
   (z8 (qM (PW.pt (vU (ql ue (qJ (qu (K:=K) rfl) (pv 3) z9 (fun _ _=>rfl)) (pv 1) (qe _)) (vI (yB (j6 (qZ G_v_are_names hr rfl T.xP.mg T.xP.fn.kp T.xP.bd .nil qY (z6 (jN (j4 (K:=K) rfl) (pv 3) (jE z9) kg) (z6 (pv 2) qz))))))))
    (qx (qt (qO qz))) qo)
   (qx (qt (jN (j4 (K:=K) rfl) (pv 3) (jE z9) kg))))),?_⟩
 walk_at "rd"
 refine⟨qp (by omega),?_⟩
 intro lw H1 s1 hlw e1
 have hS:=uU hx
 have hl:=(tY x).1
 have e1':H1 lw=some (.lst ((xJ x).map V.str)):=e1
 clear e1
 generalize xJ x=ws at *
 walk_at "rd"
 refine jy (fun h1=>?_) (fun h1=>?_)
 ·have n:jV ws y m=[]:=if_pos (.inl (aD h1))
  walk_at "rd"
  intro l H2 s2 hl2 e2
  exact k l H2 (s1.trans s2) (s1.free hl2) (by rw[n];exact e2)
 have w0:=aM h1
 walk_at "rd"
 intro lc H2 s2 hlc e2
 replace e2:H2 lc=some (.lst ((ws.drop 1).map V.str)):=by rw[←yn V.str ws 1];exact e2
 refine⟨_,rfl,lc,m,_,rfl,jx.of e2,hS.drop 1,fun H3 s3=>?_⟩
 walk_at "rd"
 cases hN:wa (ws.drop 1) m with
 | false=>
  refine sv ?_
  have n:jV ws y m=[]:=if_pos (.inr hN)
  walk_at "rd"
  intro l H4 s4 hl4 e4
  exact k l H4 (((s1.trans s2).trans s3).trans s4) (((s1.trans s2).trans s3).free hl4) (by rw[n];exact e4)
 | true=>
  refine yR ?_
  have n:jV ws y m=ws.drop 1:=if_neg (fun q=>q.elim (fun q=>q w0) (fun q=>by rw[hN] at q;cases q))
  walk_at "rd"
  intro l H4 s4 hl4 e4
  replace e4:H4 l=some (.lst ((ws.drop 1).map V.str)):=by rw[←yn V.str ws 1];exact e4
  exact k l H4 (((s1.trans s2).trans s3).trans s4) (((s1.trans s2).trans s3).free hl4) (by rw[n];exact e4)
theorem mO:qV ["row","words"] ["row"] (z7 xn):=⟨rfl,rfl,rfl,by decide +kernel,rfl,by decide +kernel,by decide +kernel⟩
set_option maxHeartbeats 400000 in
theorem sQ (T:Txt K mg t):qW P w K mg base jW 3 t.gq t.yE ["row"] JG:=by
 have G_v_is_name:qW P w K mg base jW 2 t.vj t.vz ["word"] tV:=(bX T).mono (by decide)
 refine T.gA.fn.ok mO (fun vs H Q E h=>(by obtain⟨_,rfl,_⟩:=h;rfl)) (fun cdv A outer s H vs Q E hr h=>?_)
 obtain⟨x,rfl,hx,k⟩:=h
 refine⟨_,(z8 (qi (i:=1) mO.nd rfl (Or.inl rfl) (vw PySem.F.plainAttrs_str PySem.F.slot_str_split PySem.F.type_str_split gL (pv 0) (z6 qq qz)))
   (z8 (qM (PW.pt (vU (ql ue (qG (jv (K:=K) rfl) rfl T.kf PySem.boot_len (z6 (pv 1) qz)) z9 (qe _)) (vU (ql (lg (K:=K) rfl) (qJ (qu (K:=K) rfl) (pv 1) z9 (fun _ _=>rfl)) (jm rfl T.aj (v:=.ref t.mZ) rfl) rfl) (vI (yB (j6 (qZ G_v_is_name hr rfl T.jA.mg T.jA.fn.kp T.jA.bd .nil qY (z6 (qJ (qu (K:=K) rfl) (pv 1) z9 (fun _ _=>rfl)) qz))))))))
    (qx (qt vY)) qo)
   (qx (qt (yz (z6 (qJ (qu (K:=K) rfl) (pv 1) z9 (fun _ _=>rfl)) (z6 (qJ (qu (K:=K) rfl) (pv 1) z9 (fun _ _=>rfl)) qz))))))),?_⟩
 walk_at "rd"
 refine⟨qp (by omega),?_⟩
 intro lw H1 s1 hlw e1
 have hS:=uU hx
 have e1':H1 lw=some (.lst ((xJ x).map V.str)):=e1
 clear e1
 generalize xJ x=ws at *
 refine⟨_,rfl,lw,_,rfl,.inl (jx.of e1'),rfl,_,rfl,?_⟩
 rw[List.length_map]
 have no:∀H',qf H H'→vG ws=none→Q .non H':=fun H' s' e=>(k H' s').1 e
 refine jy (fun h1=>sv (no _ s1 (if_neg fun q=>?_))) (fun h1=>?_)
 ·rw[q.1] at h1;simp at h1
 have hl:ws.length=2:=by
  by_cases q:ws.length=2
  ·exact q
  ·exact absurd (by simp;omega) h1
 walk_at "rd"
 refine⟨_,_,rfl,.inr (QL T _),rfl,iV,_,rfl,?_⟩
 refine jy (fun h2=>sv (no _ s1 (if_neg fun q=>?_))) (fun h2=>?_)
 ·have z:Xr (.str (wd ws 0)) (jT.map V.str)=false:=ud h2
  rw[z] at q
  cases q.2.1
 have hM:Xr (.str (wd ws 0)) (jT.map V.str)=true:=um h2
 walk_at "rd"
 refine⟨hS.short _ (pU (by omega)),fun H2 s2=>?_⟩
 walk_at "rd"
 refine jy (fun h3=>no _ (s1.trans s2) (if_neg fun q=>?_)) (fun h3=>?_)
 ·have z:qw (wd ws 1)=false:=ud h3
  rw[z] at q
  cases q.2.2
 have hN:qw (wd ws 1)=true:=um h3
 walk_at "rd"
 intro p H3 s3 hp e3
 exact(k H3 ((s1.trans s2).trans s3)).2 p (wd ws 0) (wd ws 1) (if_pos ⟨hl,hM,hN⟩) ((s1.trans s2).free hp) e3
theorem dE:qV ["row","words"] ["row"] (z7 xE):=⟨rfl,rfl,rfl,by decide +kernel,rfl,by decide +kernel,by decide +kernel⟩
set_option maxHeartbeats 400000 in
theorem oj (T:Txt K mg t):qW P w K mg base jW 5 t.br t.bf ["row"] (Vl t):=by
 have G_v_fits_form:qW P w K mg base jW 4 t.x9 t.x8 ["words","form"] (tX K):=(yH T).mono (by decide)
 have M_Let_init:qW P w K mg base jW 3 t.yo t.bp ["self","name","value"] (Gp t):=(oq T).mono (by decide)
 refine T.pM.fn.ok dE (fun vs H Q E h=>(by obtain⟨_,rfl,_⟩:=h;rfl)) (fun cdv A outer s H vs Q E hr h=>?_)
 obtain⟨x,rfl,hx,k⟩:=h
 refine⟨_,(z8 (qi (i:=1) dE.nd rfl (Or.inl rfl) (vw PySem.F.plainAttrs_str PySem.F.slot_str_split PySem.F.type_str_split gL (pv 0) (z6 qq qz)))
   (z8 (qM (yB (j6 (qZ G_v_fits_form hr rfl T.qD.mg T.qD.fn.kp T.qD.bd .nil qY (z6 (pv 1) (z6 (qO (z6 qq (z6 qq (z6 qq (z6 qq qz))))) qz)))))
    (qx (qt vY)) qo)
   (qx (qt (wg T.QT M_Let_init hr rfl T.K0 T.cM.bd .nil qY (z6 (qJ (qu (K:=K) rfl) (pv 1) z9 (fun _ _=>rfl)) (z6 (qJ (qu (K:=K) rfl) (pv 1) z9 (fun _ _=>rfl)) qz))))))),?_⟩
 walk_at "rd"
 refine⟨qp (by omega),?_⟩
 intro lw H1 s1 hlw e1
 have hS:=uU hx
 have e1':H1 lw=some (.lst ((xJ x).map V.str)):=e1
 clear e1
 generalize xJ x=ws at *
 walk_at "rd"
 intro lf H2 s2 hlf e2
 refine⟨lw,lf,ws,Qi,rfl,jx.of (s2 _ _ e1'),jx.of e2,hS,fun H3 s3=>?_⟩
 walk_at "rd"
 refine jy (fun h3=>(k _ ((s1.trans s2).trans s3)).1 (if_neg fun q=>?_)) (fun h3=>?_)
 ·have z:kx ws Qi=false:=ud h3
  rw[z] at q
  cases q
 have hF:kx ws Qi=true:=um h3
 have hl:ws.length=4:=gH hF
 walk_at "rd"
 intro p dx hp hdx hne
 refine⟨p,dx,_,_,rfl,qr,rfl,?_⟩
 exact(k _ (((s1.trans s2).trans s3).trans (gR hp hdx hne))).2 p _ _ (if_pos hF) (((s1.trans s2).trans s3).free hp) ⟨dx,qr⟩
theorem mN:qV ["row","words"] ["row"] (z7 xt):=⟨rfl,rfl,rfl,by decide +kernel,rfl,by decide +kernel,by decide +kernel⟩
set_option maxHeartbeats 400000 in
theorem sZ (T:Txt K mg t):qW P w K mg base jW 5 t.gz t.yI ["row"] (JW t):=by
 have G_v_are_names:qW P w K mg base jW 4 t.kF t.kH ["words","most"] (Je K):=(pJ T).mono (by decide)
 have G_v_fits_form:qW P w K mg base jW 4 t.x9 t.x8 ["words","form"] (tX K):=(yH T).mono (by decide)
 have M_Part_init:qW P w K mg base jW 3 t.km t.k9 ["self","name","rooms","rows"] (Kc K t):=(bJ T).mono (by decide)
 refine T.gE.fn.ok mN (fun vs H Q E h=>(by obtain⟨_,rfl,_⟩:=h;rfl)) (fun cdv A outer s H vs Q E hr h=>?_)
 obtain⟨x,rfl,hx,k⟩:=h
 refine⟨_,(z8 (qi (i:=1) mN.nd rfl (Or.inl rfl) (vw PySem.F.plainAttrs_str PySem.F.slot_str_split PySem.F.type_str_split gL (pv 0) (z6 qq qz)))
   (z8 (qM (yB (j6 (qZ G_v_fits_form hr rfl T.qD.mg T.qD.fn.kp T.qD.bd .nil qY (z6 (jN (j4 (K:=K) rfl) (pv 1) kg (jE z9)) (z6 (qO (z6 qq (z6 qq qz))) qz)))))
    (qx (qt vY)) qo)
   (z8 (qM (ql jk (qG (jv (K:=K) rfl) rfl T.kf PySem.boot_len (z6 (pv 1) qz)) z9 (qe _))
    (qx (qt (wg T.mX M_Part_init hr rfl T.uz T.ym.bd .nil qY (z6 (qJ (qu (K:=K) rfl) (pv 1) z9 (fun _ _=>rfl)) (z6 (qO qz) (z6 (qO qz) qz)))))) qo)
   (z8 (qM (PW.pt (vU (ql ue (qJ (qu (K:=K) rfl) (pv 1) z9 (fun _ _=>rfl)) qq (qe _)) (vI (yB (j6 (qZ G_v_are_names hr rfl T.xP.mg T.xP.fn.kp T.xP.bd .nil qY (z6 (jN (j4 (K:=K) rfl) (pv 1) (jE z9) kg) (z6 (jm rfl (T.ba).choose_spec (v:=.int 12) ⟨_,rfl⟩) qz))))))))
    (qx (qt vY)) qo)
   (qx (qt (wg T.mX M_Part_init hr rfl T.uz T.ym.bd .nil qY (z6 (qJ (qu (K:=K) rfl) (pv 1) z9 (fun _ _=>rfl)) (z6 (jN (j4 (K:=K) rfl) (pv 1) (jE z9) kg) (z6 (qO qz) qz)))))))))),?_⟩
 walk_at "rd"
 refine⟨qp (by omega),?_⟩
 intro lw H1 s1 hlw e1
 have hS:=uU hx
 have e1':H1 lw=some (.lst ((xJ x).map V.str)):=e1
 clear e1
 generalize xJ x=ws at *
 walk_at "rd"
 intro lc H2 s2 hlc e2
 replace e2:H2 lc=some (.lst ((ws.take 2).map V.str)):=by rw[←gG V.str ws 2];exact e2
 walk_at "rd"
 intro lf H3 s3 hlf e3
 refine⟨lc,lf,ws.take 2,cC,rfl,jx.of (s3 _ _ e2),jx.of e3,hS.take 2,fun H4 s4=>?_⟩
 have sA:qf H H4:=((s1.trans s2).trans s3).trans s4
 walk_at "rd"
 refine jy (fun h3=>(k _ sA).1 (if_neg fun q=>?_)) (fun h3=>?_)
 ·have z:kx (ws.take 2) cC=false:=ud h3
  rw[z] at q
  cases q
 have hF:kx (ws.take 2) cC=true:=um h3
 have hl:2≤ws.length:=by have:(ws.take 2).length=2:=gH hF;rw[List.length_take] at this;omega
 have e4:H4 lw=some (.lst (ws.map V.str)):=s4 _ _ (s3 _ _ (s2 _ _ e1'))
 clear e1' e2 e3 s1 s2 s3 s4
 refine⟨_,rfl,lw,_,rfl,.inl (jx.of e4),rfl,_,rfl,?_⟩
 rw[List.length_map]
 refine jy (fun h4=>?_) (fun h4=>?_)
 ·have hl2:ws.length=2:=by have:=of_decide_eq_true h4;injection this with this;omega
  walk_at "rd"
  intro a1 H5 s5 ha1 e5
  walk_at "rd"
  intro a2 H6 s6 ha2 e6
  walk_at "rd"
  intro p dx hp hdx hne
  have sM:=gp (o:=HO.own p) (o2:=HO.ins t.jL dx []) hp hdx
  refine⟨p,dx,a1,a2,_,[],[],rfl,qr,sM _ _ (s6 _ _ e5),sM _ _ e6,fun H7 o7 h7=>⟨rfl,?_⟩⟩
  exact(k H7 (((sA.trans s5).trans s6).trans (nL hp hdx o7))).2 p _ _ (by unfold vk;rw[if_pos hF,if_pos hl2];rfl) (((sA.trans s5).trans s6).free hp) (h7.back (((sA.trans s5).trans s6).trans sM))
 have hl3:¬ws.length=2:=fun q=>h4 (decide_eq_true (by rw[q];rfl))
 walk_at "rd"
 refine jy (fun h5=>sv ((k _ sA).1 ?_)) (fun h5=>?_)
 ·unfold vk
  rw[if_pos hF,if_neg hl3,if_pos (.inl (aD h5))]
 have hin:wd ws 2 = "in":=aM h5
 walk_at "rd"
 intro lc H5 s5 hlc e5
 replace e5:H5 lc=some (.lst ((ws.drop 3).map V.str)):=by rw[←yn V.str ws 3];exact e5
 refine⟨lc,_,_,rfl,jx.of e5,hS.drop 3,fun H6 s6=>?_⟩
 walk_at "rd"
 refine jy (fun h6=>(k _ ((sA.trans s5).trans s6)).1 ?_) (fun h6=>?_)
 ·unfold vk
  rw[if_pos hF,if_neg hl3,if_pos (.inr (ud h6))]
 have hN:wa (ws.drop 3) 12=true:=um h6
 have e6:H6 lw=some (.lst (ws.map V.str)):=s6 _ _ (s5 _ _ e4)
 clear e4 e5
 walk_at "rd"
 intro a1 H7 s7 ha1 e7
 replace e7:H7 a1=some (.lst ((ws.drop 3).map V.str)):=by rw[←yn V.str ws 3];exact e7
 walk_at "rd"
 intro a2 H8 s8 ha2 e8
 walk_at "rd"
 intro p dx hp hdx hne
 have sM:=gp (o:=HO.own p) (o2:=HO.ins t.jL dx []) hp hdx
 refine⟨p,dx,a1,a2,_,_,[],rfl,qr,sM _ _ (s8 _ _ e7),sM _ _ e8,fun H9 o9 h9=>⟨rfl,?_⟩⟩
 exact(k H9 (((((sA.trans s5).trans s6).trans s7).trans s8).trans (nL hp hdx o9))).2 p _ _ (by unfold vk;rw[if_pos hF,if_neg hl3,if_neg (fun q=>q.elim (fun q=>q hin) (fun q=>by rw[hN] at q;cases q))];rfl) (((((sA.trans s5).trans s6).trans s7).trans s8).free hp) (h9.back (((((sA.trans s5).trans s6).trans s7).trans s8).trans sM))
theorem pB:qV ["row","words"] ["row"] (z7 jD):=⟨rfl,rfl,rfl,by decide +kernel,rfl,by decide +kernel,by decide +kernel⟩
set_option maxHeartbeats 400000 in
theorem uc (T:Txt K mg t):qW P w K mg base jW 5 t.wj t.v7 ["row"] (oF t):=by
 have G_v_fits_form:qW P w K mg base jW 4 t.x9 t.x8 ["words","form"] (tX K):=(yH T).mono (by decide)
 have G_v_number_of:qW P w K mg base jW 4 t.kM t.kB ["word"] JV:=(pX T).mono (by decide)
 have M_Ban_init:qW P w K mg base jW 3 t.vT t.bh ["self","label","who","act","room"] (Kd K):=(oz T).mono (by decide)
 have M_Clause_init:qW P w K mg base jW 3 t.qE t.xX ["self","label","who","act"] (JX K):=(vV T).mono (by decide)
 have M_Duty_init:qW P w K mg base jW 3 t.vq t.yN ["self","label","who","act","turns","room"] (Gh K):=(so T).mono (by decide)
 have M_Power_init:qW P w K mg base jW 3 t.ki t.yx ["self","label","who","act","room"] (Kd K):=(rk T).mono (by decide)
 refine T.wR.fn.ok pB (fun vs H Q E h=>(by obtain⟨_,rfl,_⟩:=h;rfl)) (fun cdv A outer s H vs Q E hr h=>?_)
 obtain⟨x,rfl,hx,k⟩:=h
 refine⟨_,(z8 (qi (i:=1) pB.nd rfl (Or.inl rfl) (vw PySem.F.plainAttrs_str PySem.F.slot_str_split PySem.F.type_str_split gL (pv 0) (z6 qq qz)))
   (z8 (qM (j6 (qZ G_v_fits_form hr rfl T.qD.mg T.qD.fn.kp T.qD.bd .nil qY (z6 (pv 1) (z6 (qO (z6 qq (z6 qq (z6 qq (z6 qq (z6 qq (z6 qq (z6 qq (z6 qq qz))))))))) qz))))
    (qx (qt (wg T.sd M_Duty_init hr rfl T.QD T.dz.bd .nil qY (z6 (qJ (qu (K:=K) rfl) (pv 1) z9 (fun _ _=>rfl)) (z6 (qJ (qu (K:=K) rfl) (pv 1) z9 (fun _ _=>rfl)) (z6 (qJ (qu (K:=K) rfl) (pv 1) z9 (fun _ _=>rfl)) (z6 (qZ G_v_number_of hr rfl T.xF.mg T.xF.fn.kp T.xF.bd .nil qY (z6 (qJ (qu (K:=K) rfl) (pv 1) z9 (fun _ _=>rfl)) qz)) (z6 (qJ (qu (K:=K) rfl) (pv 1) z9 (fun _ _=>rfl)) qz)))))))) qo)
   (z8 (qM (j6 (qZ G_v_fits_form hr rfl T.qD.mg T.qD.fn.kp T.qD.bd .nil qY (z6 (pv 1) (z6 (qO (z6 qq (z6 qq (z6 qq (z6 qq qz))))) qz))))
    (qx (qt (wg T.ux M_Clause_init hr rfl T.sm T.k6.bd .nil qY (z6 (qJ (qu (K:=K) rfl) (pv 1) z9 (fun _ _=>rfl)) (z6 (qJ (qu (K:=K) rfl) (pv 1) z9 (fun _ _=>rfl)) (z6 (qJ (qu (K:=K) rfl) (pv 1) z9 (fun _ _=>rfl)) qz)))))) qo)
   (z8 (qM (j6 (qZ G_v_fits_form hr rfl T.qD.mg T.qD.fn.kp T.qD.bd .nil qY (z6 (pv 1) (z6 (qO (z6 qq (z6 qq (z6 qq (z6 qq (z6 qq (z6 qq (z6 qq qz)))))))) qz))))
    (qx (qt (wg T.iW M_Ban_init hr rfl T.KA T.cP.bd .nil qY (z6 (qJ (qu (K:=K) rfl) (pv 1) z9 (fun _ _=>rfl)) (z6 (qJ (qu (K:=K) rfl) (pv 1) z9 (fun _ _=>rfl)) (z6 (qJ (qu (K:=K) rfl) (pv 1) z9 (fun _ _=>rfl)) (z6 (qJ (qu (K:=K) rfl) (pv 1) z9 (fun _ _=>rfl)) qz))))))) qo)
   (z8 (qM (j6 (qZ G_v_fits_form hr rfl T.qD.mg T.qD.fn.kp T.qD.bd .nil qY (z6 (pv 1) (z6 (qO (z6 qq (z6 qq (z6 qq (z6 qq (z6 qq (z6 qq qz))))))) qz))))
    (qx (qt (wg T.uk M_Power_init hr rfl T.au T.fK.bd .nil qY (z6 (qJ (qu (K:=K) rfl) (pv 1) z9 (fun _ _=>rfl)) (z6 (qJ (qu (K:=K) rfl) (pv 1) z9 (fun _ _=>rfl)) (z6 (qJ (qu (K:=K) rfl) (pv 1) z9 (fun _ _=>rfl)) (z6 (qJ (qu (K:=K) rfl) (pv 1) z9 (fun _ _=>rfl)) qz))))))) qo)
   (qx (qt vY))))))),?_⟩
 walk_at "rd"
 refine⟨qp (by omega),?_⟩
 intro lw H1 s1 hlw e1
 have hS:=uU hx
 have e1':H1 lw=some (.lst ((xJ x).map V.str)):=e1
 clear e1
 generalize xJ x=ws at *
 walk_at "rd"
 intro lf H2 s2 hlf e2
 refine⟨lw,lf,ws,eA,rfl,jx.of (s2 _ _ e1'),jx.of e2,hS,fun H3 s3=>?_⟩
 have e3:H3 lw=some (.lst (ws.map V.str)):=s3 _ _ (s2 _ _ e1')
 have sA:qf H H3:=(s1.trans s2).trans s3
 clear e1' e2 s1 s2 s3
 walk_at "rd"
 refine jy (fun h1=>?_) (fun h1=>?_)
 ·have hl:ws.length=8:=gH h1
  walk_at "rd"
  refine⟨hS.short _ (pU (by omega)),fun H4 s4=>?_⟩
  have e4:H4 lw=some (.lst (ws.map V.str)):=s4 _ _ e3
  clear e3
  walk_at "rd"
  intro p dx hp hdx hne
  refine⟨p,_,dx,_,_,_,_,_,_,rfl,eB T,qr,rfl,?_⟩
  exact(k _ ((sA.trans s4).trans (gR hp hdx hne))).2 p 0 _ _ _ _ _ (by unfold ji;rw[if_pos h1];rfl) ((sA.trans s4).free hp) ⟨dx,qr⟩
 have f1:¬kx ws eA=true:=h1
 walk_at "rd"
 intro lf2 H4 s4 hlf2 e4
 refine⟨lw,lf2,ws,lI,rfl,jx.of (s4 _ _ e3),jx.of e4,hS,fun H5 s5=>?_⟩
 have e5:H5 lw=some (.lst (ws.map V.str)):=s5 _ _ (s4 _ _ e3)
 have sB:qf H H5:=(sA.trans s4).trans s5
 clear e3 e4 s4 s5 sA
 walk_at "rd"
 refine jy (fun h2=>?_) (fun h2=>?_)
 ·have hl:ws.length=4:=gH h2
  walk_at "rd"
  intro p dx hp hdx hne
  refine⟨p,_,dx,_,_,_,_,rfl,nz T,qr,rfl,?_⟩
  exact(k _ (sB.trans (gR hp hdx hne))).2 p 1 _ _ _ 0 "" (by unfold ji;rw[if_neg f1,if_pos h2];rfl) (sB.free hp) ⟨dx,qr⟩
 have f2:¬kx ws lI=true:=h2
 walk_at "rd"
 intro lf3 H6 s6 hlf3 e6
 refine⟨lw,lf3,ws,Xd,rfl,jx.of (s6 _ _ e5),jx.of e6,hS,fun H7 s7=>?_⟩
 have e7:H7 lw=some (.lst (ws.map V.str)):=s7 _ _ (s6 _ _ e5)
 have sC:qf H H7:=(sB.trans s6).trans s7
 clear e5 e6 s6 s7 sB
 walk_at "rd"
 refine jy (fun h3=>?_) (fun h3=>?_)
 ·have hl:ws.length=7:=gH h3
  walk_at "rd"
  intro p dx hp hdx hne
  refine⟨p,_,dx,_,_,_,_,_,rfl,Qg T,qr,rfl,?_⟩
  exact(k _ (sC.trans (gR hp hdx hne))).2 p 2 _ _ _ 0 _ (by unfold ji;rw[if_neg f1,if_neg f2,if_pos h3];rfl) (sC.free hp) ⟨dx,qr⟩
 have f3:¬kx ws Xd=true:=h3
 walk_at "rd"
 intro lf4 H8 s8 hlf4 e8
 refine⟨lw,lf4,ws,ip,rfl,jx.of (s8 _ _ e7),jx.of e8,hS,fun H9 s9=>?_⟩
 have e9:H9 lw=some (.lst (ws.map V.str)):=s9 _ _ (s8 _ _ e7)
 have sD:qf H H9:=(sC.trans s8).trans s9
 clear e7 e8 s8 s9 sC
 walk_at "rd"
 refine jy (fun h4=>?_) (fun h4=>?_)
 ·have hl:ws.length=6:=gH h4
  walk_at "rd"
  intro p dx hp hdx hne
  refine⟨p,_,dx,_,_,_,_,_,rfl,nj T,qr,rfl,?_⟩
  exact(k _ (sD.trans (gR hp hdx hne))).2 p 3 _ _ _ 0 _ (by unfold ji;rw[if_neg f1,if_neg f2,if_neg f3,if_pos h4];rfl) (sD.free hp) ⟨dx,qr⟩
 exact(k _ sD).1 (by unfold ji;rw[if_neg f1,if_neg f2,if_neg f3,if_neg h4])
end
theorem boot_set:bootBuiltins (Str.ofString "set")=some (Value.type "set"):=by kernel_rfl
noncomputable def Qt (t:xj) (n:Int) (H:Hp):XK:=fun c o H'=>∃a,o=some a∧c=.ref t.qI∧qf H H'∧VF H' a t.qI [("row",.int n)]
theorem Qt.back {t:xj} {n:Int} {H0 H:Hp} {c:Value} {o:Option Addr} {H':Hp} (h:Qt t n H c o H') (s:qf H0 H):Qt t n H0 c o H':=by
 obtain⟨a,h1,h2,h3,h4⟩:=h
 exact⟨a,h1,h2,s.trans h3,h4⟩
noncomputable def ZM (K:PySem.W.Frag) (f:Str):Sp:=fun vs H Q _=>∃(a C:Addr) (v:V),vs=[.ref a,v]∧KH K C∧qH K C f∧H a=some (xN a C none)∧∀dx,H dx=none→dx≠a→Q .non (upd (upd H dx (xD dx [(f,v)])) a (xN a C (some dx)))
structure bT (rows:List Str):Prop where
 lE:rows.length≤400
 short:∀x∈rows,x.length≤400
noncomputable def j0 (rows:List Str) (i:Nat) (x:Str) (m:Int) (taken:List Str):Option (List Str):=
 if i=rows.length then none else
  let ns:=jV (xJ (wd rows i)) x m
  if ns=[]∨¬(taken ++ ns).Nodup then none else some ns
theorem V4 {z:Str} {c:Nat} (h:has z c=true):c∈z.cps.toList:=by
 unfold has at h
 rw[StrLaws.found_one] at h
 simpa using h
theorem uy {x:Str} (h:qw x=true):asc x:=fun c hc=>by
 unfold qw bR at h
 (simp only[Bool.and_eq_true] at h)
 exact ay.2.2 c (V4 (List.all_eq_true.mp h.1.2 c hc))
theorem Zu {ws:List Str} {x:Str} {m:Int}:(jV ws x m).length≤ws.length∧∀y∈jV ws x m,qw y=true:=by
 unfold jV
 split
 ·exact⟨Nat.zero_le _,fun y hy=>by cases hy⟩
 ·rename_i h
  refine⟨by rw[List.length_drop];omega,fun y hy=>?_⟩
  have:wa (ws.drop 1) m=true:=by
   cases q:wa (ws.drop 1) m with
   | true=>rfl
   | false=>exact absurd (.inr q) h
  unfold wa at this
  rw[Bool.and_eq_true] at this
  exact List.all_eq_true.mp this.2 y hy
noncomputable def iO (K:PySem.W.Frag):Sp:=fun vs H Q _=>∃(l:Addr) (zs:List Str),vs=[.ref l]∧jx K H l (zs.map V.str)∧zs.length < 1000∧∀H',qf H H'→Q (.bl (decide zs.Nodup)) H'
noncomputable def Gf (K:PySem.W.Frag) (t:xj):Sp:=fun vs H Q E=>∃(a b:Addr) (i:Nat) (x:Str) (m:Int) (rows taken:List Str),vs=[.ref a,.int i,.str x,.int m,.ref b]∧jx K H a (rows.map V.str)∧H b=some (.lst (taken.map V.str))∧i≤rows.length∧bT rows∧taken.length≤300∧m≤100∧
 (j0 rows i x m taken=none→∀c o H',Qt t i H c o H'→E c o H')∧∀ns l H',j0 rows i x m taken=some ns→qf H H'→H l=none→H' l=some (.lst (ns.map V.str))→Q (.ref l) H'
section
variable {P:Program} {w:World} {K:PySem.W.Frag} {mg:Str→Option Value} {base:Heap} {t:xj}
theorem uH:qV ["self","row"] ["self","row"] (z7 jM):=⟨rfl,rfl,rfl,by decide +kernel,rfl,by decide +kernel,by decide +kernel⟩
set_option maxHeartbeats 400000 in
theorem yG (T:Txt K mg t):qW P w K mg base jW 1 t.xK t.x6 ["self","row"] (ZM K "row"):=by
 refine T.xH.fn.ok uH (fun vs H Q E h=>(by obtain⟨_,_,_,rfl,_⟩:=h;rfl)) (fun cdv A outer s H vs Q E hr h=>?_)
 obtain⟨a,C,v,rfl,c,n,e,k⟩:=h
 exact⟨_,(qx (XE (pv 0) (pv 1) rfl)),_,rfl,_,rfl,a,C,rfl,c,n,.inl ⟨e,k⟩⟩
theorem WB {C:Addr} {f:Str} {v:V} {H:Hp} {E:XK} {X:XK} (c:KH K C) (n:qH K C f) (xc:hZ K C=true) (k:∀a H',qf H H'→VF H' a C [(f,v)]→E (.ref C) (some a) H') :
  ∀a,H a=none→ZM K f (.ref a :: ([v] ++ [])) (upd H a (xN a C none)) (fun u H2=>u=.non∧∃a' C' d,V.ref a=.ref a'∧hZ K C'=true∧H2 a'=some (xN a' C' d)∧E (.ref C') (some a') (upd H2 a' (xO a' C' d))) X:=by
 intro a ha
 refine⟨a,C,v,rfl,c,n,qr,fun dx hd hne=>⟨rfl,a,C,some dx,rfl,xc,qr,k a _ (fun b o e=>?_) (.inr ⟨dx,qr,?_⟩)⟩⟩
 ·have q:=qm e ha
  have e':(upd H a (xN a C none)) b=some o:=by rw[qB q];exact e
  rw[qB q,qB q,qB (qm e' hd)];exact e'
 ·rw[qB hne,qB hne];exact qr
theorem bV (T:Txt K mg t) {n:Int} {H:Hp} {E:XK} {X:XK} (k:∀c o H',Qt t n H c o H'→E c o H') :
  ∀a,H a=none→ZM K "row" (.ref a :: ([V.int n] ++ [])) (upd H a (xN a t.qI none)) (fun u H2=>u=.non∧∃a' C' d,V.ref a=.ref a'∧hZ K C'=true∧H2 a'=some (xN a' C' d)∧E (.ref C') (some a') (upd H2 a' (xO a' C' d))) X:=
 WB T.lH T.kC T.vy.xc fun a H' s x=>k _ _ _ ⟨a,rfl,rfl,s,x⟩
theorem uM:qV ["names"] ["names"] (z7 jU):=⟨rfl,rfl,rfl,by decide +kernel,rfl,by decide +kernel,by decide +kernel⟩
set_option maxHeartbeats 400000 in
theorem pK (T:Txt K mg t):qW P w K mg base jW 1 t.kD t.kP ["names"] (iO K):=by
 refine T.xM.fn.ok uM (fun vs H Q E h=>(by obtain⟨_,_,rfl,_⟩:=h;rfl)) (fun cdv A outer s H vs Q E hr h=>?_)
 obtain⟨l,zs,rfl,hl,hn,k⟩:=h
 refine⟨_,(qx (qt (kX jk (qG aE rfl T.kf PySem.boot_len (z6 (jI (XY (K:=K) rfl rfl) rfl T.KP boot_set (z6 (pv 0) qz)) qz)) (qG (jv (K:=K) rfl) rfl T.kf PySem.boot_len (z6 (pv 0) qz)) (qe _)))),?_⟩
 refine⟨_,rfl,l,zs,rfl,hl,hn,fun a ha=>?_⟩
 refine⟨a,_,rfl,qr,?_⟩
 have s1:qf H (upd H a (Yg P w a (nQ [] zs))):=qf.nN ha
 refine⟨_,rfl,l,_,rfl,.inl (s1.seq hl),rfl,?_⟩
 rw[show decide (V.int ((nQ [] zs:Nat):Int)=V.int ((zs.map V.str).length:Nat))=decide zs.Nodup from by rw[List.length_map,←VO];simp]
 exact k _ s1
theorem bM:qV ["rows","number","word","most","taken","names"] ["rows","number","word","most","taken"] (z7 jZ):=⟨rfl,rfl,rfl,by decide +kernel,rfl,by decide +kernel,by decide +kernel⟩
set_option maxHeartbeats 400000 in
theorem d9 (T:Txt K mg t):qW P w K mg base (lP P w) 6 t.vi t.vd ["rows","number","word","most","taken"] (Gf K t):=by
 have G_v_names_of:qW P w K mg base jW 5 t.yw t.yk ["row","word","most"] Vt:=(rg T).mono (by decide)
 have G_v_told_once:qW P w K mg base jW 5 t.kD t.kP ["names"] (iO K):=(pK T).mono (by decide)
 have M_NoText_init:qW P w K mg base jW 4 t.xK t.x6 ["self","row"] (ZM K "row"):=(yG T).mono (by decide)
 refine T.xQ.fn.GA bM (fun vs H Q E h=>(by obtain⟨_,_,_,_,_,_,_,rfl,_⟩:=h;rfl)) (fun cdv A outer s H vs Q E hr h=>?_)
 obtain⟨a,b,i,x,m,rows,taken,rfl,hA,hB,hi,hR,hT,hm,kE,kQ⟩:=h
 refine⟨_,(z8 (qM (ql jk (pv 1) (qG (jv (K:=K) rfl) rfl T.kf PySem.boot_len (z6 (pv 0) qz)) (qe _))
    (qx (gO pE rfl (gS T.vy M_NoText_init hr rfl T.wG T.xH.bd .nil qY (z6 (pv 1) qz)))) qo)
   (z8 (qi (i:=5) bM.nd rfl (Or.inl rfl) (qZ G_v_names_of hr rfl T.yD.mg T.yD.fn.kp T.yD.bd .nil qY (z6 (qJ (qu (K:=K) rfl) (pv 0) (pv 1) (fun _ _=>rfl)) (z6 (pv 2) (z6 (pv 3) qz)))))
   (z8 (qM (PW.pt (vU (ql (aZ (K:=K) rfl hr.units) (pv 5) (qO qz) (qe _)) (vI (yB (j6 (qZ G_v_told_once hr rfl T.xM.mg T.xM.fn.kp T.xM.bd .nil qY (z6 (qk xU (pv 4) (pv 5)) qz)))))))
    (qx (gO pE rfl (gS T.vy M_NoText_init hr rfl T.wG T.xH.bd .nil qY (z6 (pv 1) qz)))) qo)
   (qx (qt (pv 5)))))),?_⟩
 walk_at "rd"
 refine⟨a,_,rfl,.inl hA,rfl,_,rfl,?_⟩
 refine jy (fun h1=>?_) (fun h1=>?_)
 ·walk_at "rd"
  exact bV T (kE (by
   have:(i:Int)=((rows.map V.str).length:Nat):=by simpa using h1
   rw[List.length_map] at this
   unfold j0;rw[if_pos (by omega)]))
 have hi':i < rows.length:=by
  have:¬(i:Int)=((rows.map V.str).length:Nat):=by simpa using h1
  rw[List.length_map] at this;omega
 have hwd:wd rows i∈rows:=pU hi'
 have eR:j0 rows i x m taken=(if jV (xJ (wd rows i)) x m=[]∨¬(taken ++ jV (xJ (wd rows i)) x m).Nodup then none else some (jV (xJ (wd rows i)) x m)):=by
  unfold j0;rw[if_neg (by omega)]
 walk_at "rd"
 simp only[Int.toNat_natCast]
 refine⟨hR.short _ hwd,fun l H1 s1 hl e1=>?_⟩
 have e1':H1 l=some (.lst ((jV (xJ (wd rows i)) x m).map V.str)):=e1
 clear e1
 have hn:=@Zu (xJ (wd rows i)) x m
 have hw:=(tY (wd rows i)).2
 have hw2:=hR.short _ hwd
 have hb:(jV (xJ (wd rows i)) x m).length≤402:=by omega
 have ho:=hn.2
 clear hn hw hw2
 generalize jV (xJ (wd rows i)) x m=ns at *
 have sh:SeqAt.shaped (.list (ns.map PyData.str))=true:=wU fun y hy=>(uy (ho y hy)).ok
 walk_at "rd"
 intro l2 H2 s2 hl2 e2
 have sh0:SeqAt.shaped (.list (([]:List Str).map PyData.str))=true:=wU (xs:=[]) fun y hy=>by cases hy
 refine⟨_,_,lF.lst (jx.of (s2 _ _ e1')) (bz.strs ns),lF.lst (jx.of e2) (bz.strs []),sh,sh0,_,rfl,?_⟩
 rw[nJ]
 refine jy (fun h2=>?_) (fun h2=>?_)
 ·walk_at "rd"
  exact bV T fun c o H' z=>kE (by rw[eR,if_pos (.inl (of_decide_eq_true h2))]) c o H' (z.back (s1.trans s2))
 have hne:¬ns=[]:=fun q=>h2 (decide_eq_true q)
 walk_at "rd"
 refine⟨b,l,_,_,rfl,rfl,s2 _ _ (s1 _ _ hB),s2 _ _ e1',qp (by simp only[List.length_map];omega),?_⟩
 intro l3 H3 s3 hl3 e3
 refine⟨l3,taken ++ ns,rfl,jx.of (by rw[e3,List.map_append]),(by rw[List.length_append];omega),fun H4 s4=>?_⟩
 have sA:qf H H4:=((s1.trans s2).trans s3).trans s4
 walk_at "rd"
 refine jy (fun h3=>?_) (fun h3=>?_)
 ·walk_at "rd"
  exact bV T fun c o H' z=>kE (by rw[eR,if_pos (.inr (of_decide_eq_false (ud h3)))]) c o H' (z.back sA)
 walk_at "rd"
 exact kQ ns l H4 (by rw[eR,if_neg (fun q=>q.elim hne (fun q=>q (of_decide_eq_true (um h3))))]) sA hl (s4 _ _ (s3 _ _ (s2 _ _ e1')))
noncomputable def jG (taken:List Str):List (Str × Str)→List Str→Except Nat (List (Str × Str))
 | found,[]=>if found=[] then .error 2 else .ok found
 | found,x :: r=>match vG (xJ x) with
  | none=>if found=[] then .error 2 else .ok found
  | some mn=>if found.length=12∨¬(taken ++ (found ++ [mn]).map (·.2)).Nodup then .error (2 + found.length) else jG taken (found ++ [mn]) r
noncomputable def vR (H:Hp) (v:V) (mn:Str × Str):Prop:=∃p,v=.ref p∧H p=some (.tup [.str mn.1,.str mn.2])
noncomputable def fV (mn:Str × Str):Prop:=mn.1∈jT∧qw mn.2=true
theorem Jp {ws:List Str} {m n:Str} (h:vG ws=some (m,n)):fV (m,n):=by
 unfold vG at h
 split at h
 ·rename_i q
  cases h
  rw[ma] at q
  exact⟨of_decide_eq_true q.2.1,q.2.2⟩
 ·cases h
theorem QS:∀x∈jT,PyData.strOk x=true:=by decide +kernel
noncomputable def Yw (mn:Str × Str):PyData:=.tuple [.str mn.1,.str mn.2]
theorem Jh:∀{fnd:List (Str × Str)},(∀mn∈fnd,fV mn)→PyData.canLayAll0 (fnd.map Yw)=true∧PyData.depthAll (fnd.map Yw)≤2
 | [],_=>⟨rfl,Nat.zero_le _⟩
 | mn :: r,h=>by
  have q:=Jh (fnd:=r) fun x hx=>h x (List.mem_cons_of_mem _ hx)
  have h1:=QS _ (h mn List.mem_cons_self).1
  have h2:=(uy (h mn List.mem_cons_self).2).ok
  have q2:=q.2
  simp [PyData.canLayAll0,PyData.canLay0,PyData.depthAll,PyData.depth,Yw,q.1,h1,h2]
  omega
theorem ZZ {fnd:List (Str × Str)} (h:∀mn∈fnd,fV mn):SeqAt.shaped (.list (fnd.map Yw))=true:=by
 have q:=Jh h
 simp [SeqAt.shaped,PyData.canLay0,PyData.depth,q.1]
 omega
theorem vR.same {H H':Hp} {v:V} {mn:Str × Str} (h:vR H v mn) (s:qf H H'):vR H' v mn:=by
 obtain⟨p,e,q⟩:=h
 exact⟨p,e,s _ _ q⟩
theorem vR.keeps {H H':Hp} {v:V} {mn:Str × Str} {l:Addr} {xs:List V} (h:vR H v mn) (k:Keeps l H H') (e:H l=some (.lst xs)):vR H' v mn:=by
 obtain⟨p,e',q⟩:=h
 exact⟨p,e',k.look q (dI q e (by intro z;cases z))⟩
theorem Paired.snoc {α β:Type} {F:α→β→Prop} {a:α} {b:β}:∀{xs:List α} {ys:List β},Paired F xs ys→F a b→Paired F (xs ++ [a]) (ys ++ [b])
 | [],[],_,h=>.cons h .nil
 | _ :: _,_ :: _,.cons h t,q=>.cons h (Paired.snoc t q)
noncomputable def W7 (H:Hp) (y:V):List (Option V):=match y with
 | .ref p=>(match H p with | some (.tup [u,v])=>[some u,some v] | _=>[none,none])
 | _=>[none,none]
theorem Ka (H:Hp) (y:V):(W7 H y).length=2:=by
 unfold W7
 split
 ·split<;>rfl
 ·rfl
theorem Paired.Ww {α β:Type} {F:α→β→Prop} {a:α}:∀{xs:List α} {ys:List β},Paired F xs ys→a∈xs→∃b∈ys,F a b
 | _ :: _,_ :: _,.cons h t,q=>by
  rcases List.mem_cons.mp q with rfl | q
  ·exact⟨_,List.mem_cons_self,h⟩
  ·obtain⟨b,hb,hF⟩:=Paired.Ww t q
   exact⟨b,List.mem_cons_of_mem _ hb,hF⟩
theorem uV {H:Hp}:∀{vs:List V} {fnd:List (Str × Str)} {ys:List V},Paired (vR H) vs fnd→Paired (fun y v=>∀p m n,y=V.ref p→H p=some (.tup [.str m,.str n])→v=V.str n) vs ys→ys=(fnd.map (·.2)).map V.str
 | [],[],[],_,_=>rfl
 | _ :: _,_ :: _,_ :: _,.cons ⟨p,e,q⟩ t,.cons h t'=>by
  rw[h p _ _ e q,uV t t']
  rfl
theorem oJ {K:PySem.W.Frag} {H:Hp}:∀{vs:List V} {fnd:List (Str × Str)},Paired (vR H) vs fnd→bz K H vs (fnd.map Yw)
 | [],[],_=>.nil
 | _ :: _,_ :: _,.cons ⟨p,e,q⟩ t=>by
  subst e
  exact .cons (lF.tup (fz.of q) (.cons (.str _) (.cons (.str _) .nil))) (oJ t)
theorem WD (fnd:List (Str × Str)):PyData.eqv (.list (fnd.map Yw)) (.list (([]:List Str).map PyData.str))=decide (fnd=[]):=by
 cases fnd<;>simp [PyData.eqv,PyData.eqvAll]
noncomputable def Gm (K:PySem.W.Frag) (t:xj):Sp:=fun vs H Q E=>∃(a b:Addr) (rows taken:List Str),vs=[.ref a,.ref b]∧jx K H a (rows.map V.str)∧H b=some (.lst (taken.map V.str))∧bT rows∧taken.length≤400∧
 (∀n:Nat,jG taken [] (rows.drop 2)=.error n→∀c o H',Qt t n H c o H'→E c o H')∧∀rs l H' vs,jG taken [] (rows.drop 2)=.ok rs→qf H H'→H l=none→H' l=some (.lst vs)→Paired (vR H') vs rs→Q (.ref l) H'
theorem kS:qV ["rows","taken","rooms","row","room"] ["rows","taken"] (z7 jc):=⟨rfl,rfl,rfl,by decide +kernel,rfl,by decide +kernel,by decide +kernel⟩
set_option maxHeartbeats 400000 in
theorem cz (T:Txt K mg t):qW P w K mg base (lP P w) 6 t.ve t.vc ["rows","taken"] (Gm K t):=by
 have G_v_room_of:qW P w K mg base jW 5 t.gq t.yE ["row"] JG:=(sQ T).mono (by decide)
 have G_v_told_once:qW P w K mg base jW 5 t.kD t.kP ["names"] (iO K):=(pK T).mono (by decide)
 have M_NoText_init:qW P w K mg base jW 4 t.xK t.x6 ["self","row"] (ZM K "row"):=(yG T).mono (by decide)
 refine T.vM.fn.GA kS (fun vs H Q E h=>(by obtain⟨_,_,_,_,rfl,_⟩:=h;rfl)) (fun cdv A outer s H vs Q E hr h=>?_)
 obtain⟨a,b,rows,taken,rfl,hA,hB,hR,hT,kE,kQ⟩:=h
 refine⟨_,(z8 (qi (i:=2) kS.nd rfl (Or.inl rfl) (qO qz) p8)
   (z8 (PS.join (fM PassesOwn.leaving rfl (gN (K:=K) rfl (jN (j4 (K:=K) rfl) (pv 0) (jE (jm rfl (T.vQ).choose_spec (v:=.int 2) ⟨_,rfl⟩)) kg)) (xR (i:=3) kS.nd rfl (Or.inl rfl))
    (z8 (qi (i:=4) kS.nd rfl (Or.inl rfl) (qZ G_v_room_of hr rfl T.gA.mg T.gA.fn.kp T.gA.bd .nil qY (z6 (pv 3) qz)))
   (z8 (qM (ql sY (pv 4) vY (qe _))
    (qx (Jk)) qo)
   (z8 (qM (PW.pt (vU (ql jk (qG (jv (K:=K) rfl) rfl T.kf PySem.boot_len (z6 (pv 2) qz)) (jm rfl (T.ba).choose_spec (v:=.int 12) ⟨_,rfl⟩) (qe _)) (vI (yB (j6 (qZ G_v_told_once hr rfl T.xM.mg T.xM.fn.kp T.xM.bd .nil qY (z6 (qk xU (pv 1) (lQ (osc:=z7 jc) (N:=["rows","taken","rooms","row","room"]) (xs:=["mark","name"]) (names:=[]) (qS:=[]) rfl rfl rfl ⟨rfl,by decide +kernel,by decide +kernel,by decide +kernel,by decide +kernel,rfl,by decide +kernel,by decide +kernel⟩ (gN (K:=K) rfl (qk xU (pv 2) (qO (z6 (pv 4) qz)))) (fun _ _ _=>(cK (K:=K) (n:=2) rfl rfl (wM (xR (i:=0) (show (["mark","name"]:List Str).Nodup from by decide +kernel) rfl (.inl (nM rfl)) (.inr (nM rfl))) (wM (xR (i:=1) (show (["mark","name"]:List Str).Nodup from by decide +kernel) rfl (.inl (nM rfl)) (.inr (nM rfl))) cV)) rfl rfl)) (fun _ _ _=>aJ) (fun _ _ _=>(pv 1)))) qz)))))))
    (qx (gO pE rfl (gS T.vy M_NoText_init hr rfl T.wG T.xH.bd .nil qY (z6 (qk xk (jm rfl (T.vQ).choose_spec (v:=.int 2) ⟨_,rfl⟩) (qG (jv (K:=K) rfl) rfl T.kf PySem.boot_len (z6 (pv 2) qz))) qz)))) qo)
   (qx (kK (vw PySem.F.plainAttrs_list PySem.F.slot_list_append PySem.F.type_list_append vO (pv 2) (z6 (pv 4) qz)))))))))
   (z8 (qM (ql (aZ (K:=K) rfl hr.units) (pv 2) (qO qz) (qe _))
    (qx (gO pE rfl (gS T.vy M_NoText_init hr rfl T.wG T.xH.bd .nil qY (z6 (jm rfl (T.vQ).choose_spec (v:=.int 2) ⟨_,rfl⟩) qz)))) qo)
   (qx (qt (pv 2)))))),?_⟩
 refine⟨Nat.zero_le _,?_⟩
 intro l H1 s1 hl e1
 refine⟨fun σ' H'=>(∃(vs:List V) (fnd:List (Str × Str)) (v3 v4:Option V),σ'=[some (.ref a),some (.ref b),some (.ref l),v3,v4]∧qf H H'∧H' l=some (.lst vs)∧Paired (vR H') vs fnd∧fnd.length≤12∧(∀mn∈fnd,fV mn)∧jG taken [] (rows.drop 2)=(if fnd=[] then .error 2 else .ok fnd))∨False,?_,?_⟩
 ·walk_at "rd"
  intro l0 H2 s2 hl0 e2
  have e2':H2 l0=some (.lst ((rows.drop 2).map V.str)):=by rw[←yn V.str rows 2];exact e2
  clear e2
  walk_at "rd"
  have hne0:l0≠l:=Ne.symm (qm e1 hl0)
  refine cU (K:=K) (a:=l0) (xs:=(rows.drop 2).map V.str) (fun i σ H'=>∃(vs:List V) (fnd:List (Str × Str)) (v3 v4:Option V),σ=[some (.ref a),some (.ref b),some (.ref l),v3,v4]∧qf H H'∧H' l=some (.lst vs)∧H' l0=some (.lst ((rows.drop 2).map V.str))∧Paired (vR H') vs fnd∧fnd.length≤12∧(∀mn∈fnd,fV mn)∧jG taken [] (rows.drop 2)=jG taken fnd ((rows.drop 2).drop i))
   ⟨[],[],none,none,rfl,s1.trans s2,s2 _ _ e1,e2',.nil,Nat.zero_le _,fun _ z=>(by cases z),by rw[List.drop_zero]⟩ (fun i σ H' _ ⟨_,_,_,_,_,_,_,q,_⟩=>jx.of q) ?_ ?_
  ·rintro i y σ H3 hi ⟨vs,fnd,v3,v4,rfl,s3,e3,e30,hP,hf,jw,hr'⟩
   rw[List.getElem?_map] at hi
   cases q:(rows.drop 2)[i]? with
   | none=>rw[q] at hi;cases hi
   | some x=>
    rw[q] at hi
    cases hi
    have hx:x∈rows:=List.mem_of_mem_drop (List.mem_of_getElem? q)
    have hd:(rows.drop 2).drop i=x :: (rows.drop 2).drop (i + 1):=by
     obtain⟨hi',e⟩:=List.getElem?_eq_some_iff.mp q
     rw[←e];exact List.drop_eq_getElem_cons hi'
    rw[hd] at hr'
    walk_at "rd"
    refine⟨hR.short _ hx,fun H4 s4=>⟨fun h0=>?_,fun p m n h0 hp e4=>?_⟩⟩
    ·walk_at "rd"
     refine .inl ⟨vs,fnd,_,_,rfl,s3.trans s4,s4 _ _ e3,Paired.imp' (fun _ _ z=>z.same s4) hP,hf,jw,?_⟩
     rw[hr',jG,h0]
    ·have hP4:Paired (vR H4) (vs ++ [.ref p]) (fnd ++ [(m,n)]):=Paired.snoc (Paired.imp' (fun _ _ z=>z.same s4) hP) ⟨p,rfl,e4⟩
     have hlen:vs.length=fnd.length:=Paired.length hP
     have eRR:jG taken fnd (x :: List.drop (i + 1) (List.drop 2 rows))=if fnd.length=12∨¬(taken ++ (fnd ++ [(m,n)]).map (·.2)).Nodup then .error (2 + fnd.length) else jG taken (fnd ++ [(m,n)]) (List.drop (i + 1) (List.drop 2 rows)):=by rw[jG,h0]
     rw[eRR] at hr'
     have e34:=s4 _ _ e3
     have raise2:(fnd.length=12∨¬(taken ++ (fnd ++ [(m,n)]).map (·.2)).Nodup)→∀c o H',Qt t (2 + (vs.length:Nat):Int) H c o H'→E c o H':=fun z c o H' q=>kE (2 + fnd.length) (by rw[hr',if_pos z]) c o H' (by rw[←hlen];exact q)
     walk_at "rd"
     refine⟨l,_,rfl,.inl (jx.of e34),rfl,_,rfl,?_⟩
     refine jy (fun h12=>?_) (fun h12=>?_)
     ·walk_at "rd"
      refine⟨l,_,rfl,.inl (jx.of e34),?_⟩
      walk_at "rd"
      exact bV T fun c o H' z=>raise2 (.inl (by
       have:((vs.length:Nat):Int)=12:=by simpa using h12
       omega)) c o H' (z.back (s3.trans s4))
     have hn12:¬fnd.length=12:=fun q=>h12 (by rw[hlen,q];rfl)
     walk_at "rd"
     intro l5 H5 s5 hl5 e5
     refine⟨l,l5,_,_,rfl,rfl,s5 _ _ e34,e5,qp (by simp only[List.length_cons,List.length_nil];omega),?_⟩
     intro l6 H6 s6 hl6 e6
     have hP6:Paired (vR H6) (vs ++ [.ref p]) (fnd ++ [(m,n)]):=Paired.imp' (fun _ _ z=>z.same (s5.trans s6)) hP4
     refine⟨l6,rfl,⟨_,jx.of e6⟩,a8 (de (jx.of e6)) (W7 H6) (Ka H6) (fun y v=>∀p m n,y=V.ref p→H6 p=some (.tup [.str m,.str n])→v=V.str n) (qp (by rw[List.length_append];simp only[List.length_cons,List.length_nil];omega)) ?_ ?_ ?_⟩
     ·intro j y ts H' K' hy hts s' k'
      obtain⟨mn,_,p',rfl,ep⟩:=Paired.Ww hP6 (List.mem_of_getElem? hy)
      have et:W7 H6 (.ref p')=[some (.str mn.1),some (.str mn.2)]:=by unfold W7;simp only[ep]
      rw[et] at k'
      match ts,hts with
      | [t1,t2],_=>exact⟨p',_,rfl,fz.of (s' _ _ ep),rfl,_,_,rfl,_,_,rfl,rfl,k'⟩
     ·intro j y H' Q' hy s' kk
      obtain⟨mn,_,p',rfl,ep⟩:=Paired.Ww hP6 (List.mem_of_getElem? hy)
      have et:W7 H6 (.ref p')=[some (.str mn.1),some (.str mn.2)]:=by unfold W7;simp only[ep]
      rw[et]
      refine⟨_,rfl,kk _ _ (qf.refl _) fun p2 m2 n2 e q=>?_⟩
      cases e
      rw[ep] at q
      cases q
      rfl
     intro D H7 ys s7 hD e7 hPr
     rw[uV hP6 hPr] at e7
     have sA:qf H H7:=(((s3.trans s4).trans s5).trans s6).trans s7
     walk_at "rd"
     refine⟨b,D,_,_,rfl,rfl,sA _ _ hB,e7,qp (by simp only[List.length_map,List.length_append,List.length_cons,List.length_nil];omega),?_⟩
     intro l8 H8 s8 hl8 e8
     refine⟨l8,taken ++ (fnd ++ [(m,n)]).map (·.2),rfl,jx.of (by rw[e8,←List.map_append]),(by simp only[List.length_map,List.length_append,List.length_cons,List.length_nil];omega),fun H9 s9=>?_⟩
     have sB:qf H4 H9:=(((s5.trans s6).trans s7).trans s8).trans s9
     walk_at "rd"
     refine jy (fun h3=>?_) (fun h3=>?_)
     ·walk_at "rd"
      refine⟨l,_,rfl,.inl (jx.of (sB _ _ e34)),?_⟩
      walk_at "rd"
      exact bV T fun c o H' z=>raise2 (.inr (of_decide_eq_false (ud h3))) c o H' (z.back ((s3.trans s4).trans sB))
     walk_at "rd"
     intro H10 k10 e10
     have e9l:=sB _ _ e34
     refine⟨vs ++ [.ref p],fnd ++ [(m,n)],_,_,rfl,k10.put ((s3.trans s4).trans sB) hl,e10,k10.look (sB _ _ (s4 _ _ e30)) (fun q=>?_),Paired.imp' (fun _ _ z=>(z.same sB).keeps k10 e9l) hP4,(by rw[List.length_append];simp only[List.length_cons,List.length_nil];omega),(fun z hz=>(List.mem_append.mp hz).elim (jw z) (fun hz=>by rw[List.mem_singleton.mp hz];exact Jp h0)),?_⟩
     ·exact hne0 q
     ·rw[hr',if_neg (fun q=>q.elim hn12 (fun q=>q (of_decide_eq_true (um h3))))]
  ·rintro σ H3 ⟨vs,fnd,v3,v4,rfl,s3,e3,e30,hP,hf,jw,hr'⟩
   rw[List.length_map,List.drop_length,jG] at hr'
   exact .inl ⟨vs,fnd,v3,v4,rfl,s3,e3,hP,hf,jw,hr'⟩
 ·rintro σ H3 (⟨vs,fnd,v3,v4,rfl,s3,e3,hP,hf,jw,hr'⟩ | ⟨⟨⟩⟩)
  walk_at "rd"
  intro l4 H4 s4 hl4 e4
  have sh0:SeqAt.shaped (.list (([]:List Str).map PyData.str))=true:=wU (xs:=[]) fun y hy=>by cases hy
  have hP4:Paired (vR H4) vs fnd:=Paired.imp' (fun _ _ z=>z.same s4) hP
  refine⟨_,_,lF.lst (jx.of (s4 _ _ e3)) (oJ hP4),lF.lst (jx.of e4) (bz.strs []),ZZ jw,sh0,_,rfl,?_⟩
  rw[WD]
  refine jy (fun h2=>?_) (fun h2=>?_)
  ·walk_at "rd"
   exact bV T fun c o H' z=>kE 2 (by rw[hr',if_pos (of_decide_eq_true h2)]) c o H' (z.back (s3.trans s4))
  walk_at "rd"
  exact kQ fnd l H4 vs (by rw[hr',if_neg (fun q=>h2 (decide_eq_true q))]) (s3.trans s4) hl (s4 _ _ e3) hP4
end
inductive Rw where
 | lt (n v:Str)
 | cl (k:Int) (l u a:Str) (n:Int) (r:Str)
 | pt (n:Str) (rs:List Str) (rows:List Rw)
mutual
noncomputable def bN (t:xj) (ms:List Addr) (H:Hp):Rw→V→Prop
 | .lt n v,x=>∃p,x=.ref p∧p∉ms∧BH t H p n v
 | .cl k l u a n r,x=>∃p,x=.ref p∧p∉ms∧At t H p k l u a n r
 | .pt n rs rows,x=>∃p dx a b ys,x=.ref p∧p∉ms∧a∉ms∧b∉ms∧H p=some (.ins t.jL dx (Zx n a b))∧H a=some (.lst (rs.map V.str))∧H b=some (.lst ys)∧xw t ms H rows ys
noncomputable def xw (t:xj) (ms:List Addr) (H:Hp):List Rw→List V→Prop
 | [],ys=>ys=[]
 | r :: rs,ys=>∃y ys',ys=y :: ys'∧bN t ms H r y∧xw t ms H rs ys'
end
noncomputable def Fm (ms:List Addr) (H H':Hp):Prop:=∀b o,b∉ms→H b=some o→H' b=some o
theorem Fm.trans {ms ms':List Addr} {H H1 H2:Hp} (a:Fm ms H H1) (b:Fm ms' H1 H2) (hm:∀b∈ms',b∈ms∨H b=none):Fm ms H H2:=fun c o hc e=>b c o (fun z=>(hm c z).elim hc (fun q=>by rw[e] at q;cases q)) (a c o hc e)
theorem Fm.of {ms:List Addr} {H H1:Hp} (s:qf H H1):Fm ms H H1:=fun c o _ e=>s _ _ e
theorem Fm.i7 {ms:List Addr} {H0 H H1:Hp} (a:Fm ms H H1) (s:qf H0 H) (h:∀b∈ms,H0 b=none):qf H0 H1:=fun c o e=>a c o (fun z=>by rw[h c z] at e;cases e) (s c o e)
theorem mC {ms ms':List Addr} {H:Hp} {b:Addr} {o:HO} (hm:∀b∈ms',b∈ms∨H b=none) (h:b∉ms) (e:H b=some o):b∉ms':=fun z=>(hm b z).elim h (fun q=>by rw[e] at q;cases q)
mutual
theorem bN.move {t:xj} {ms ms':List Addr} {H H':Hp} (hk:Fm ms H H') (hm:∀b∈ms',b∈ms∨H b=none):∀{r:Rw} {x:V},bN t ms H r x→bN t ms' H' r x
 | .lt n v,x,h=>by
  unfold bN at h ⊢
  obtain⟨p,e,hp,dx,q⟩:=h
  exact⟨p,e,mC hm hp q,dx,hk _ _ hp q⟩
 | .cl k l u a n r,x,h=>by
  unfold bN at h ⊢
  obtain⟨p,e,hp,dx,q⟩:=h
  exact⟨p,e,mC hm hp q,dx,hk _ _ hp q⟩
 | .pt n rs rows,x,h=>by
  unfold bN at h ⊢
  obtain⟨p,dx,a,b,ys,e,hp,ha,hb,e1,e2,e3,q⟩:=h
  exact⟨p,dx,a,b,ys,e,mC hm hp e1,mC hm ha e2,mC hm hb e3,hk _ _ hp e1,hk _ _ ha e2,hk _ _ hb e3,xw.move hk hm q⟩
theorem xw.move {t:xj} {ms ms':List Addr} {H H':Hp} (hk:Fm ms H H') (hm:∀b∈ms',b∈ms∨H b=none):∀{rs:List Rw} {ys:List V},xw t ms H rs ys→xw t ms' H' rs ys
 | [],ys,h=>by unfold xw at h ⊢;exact h
 | r :: rs,ys,h=>by
  unfold xw at h ⊢
  obtain⟨y,ys',e,h1,h2⟩:=h
  exact⟨y,ys',e,bN.move hk hm h1,xw.move hk hm h2⟩
end
theorem xw.snoc {t:xj} {ms:List Addr} {H:Hp} {r:Rw} {y:V} (h:bN t ms H r y):∀{rs:List Rw} {ys:List V},xw t ms H rs ys→xw t ms H (rs ++ [r]) (ys ++ [y])
 | [],ys,q=>by
  unfold xw at q
  subst q
  show xw t ms H [r] [y]
  unfold xw
  exact⟨y,[],rfl,h,by unfold xw;rfl⟩
 | r' :: rs,ys,q=>by
  unfold xw at q
  obtain⟨y',ys',rfl,h1,h2⟩:=q
  show xw t ms H (r' :: (rs ++ [r])) (y' :: (ys' ++ [y]))
  unfold xw
  exact⟨y',_,rfl,h1,xw.snoc h h2⟩
theorem xw.len {t:xj} {ms:List Addr} {H:Hp}:∀{rs:List Rw} {ys:List V},xw t ms H rs ys→ys.length=rs.length
 | [],ys,q=>by unfold xw at q;rw[q];rfl
 | r' :: rs,ys,q=>by
  unfold xw at q
  obtain⟨y',ys',rfl,h1,h2⟩:=q
  rw[List.length_cons,List.length_cons,xw.len h2]
noncomputable abbrev Fr:=Str × List Str × List Rw
noncomputable def bS (t:xj) (ms:List Addr) (H:Hp) (B:Nat):List Addr→List Addr→List Fr→Prop
 | [],[],[]=>True
 | p :: ps,q :: qs,(n,rs,rows) :: fr=>(∃dx a b,p∉ms∧a∉ms∧H p=some (.ins t.jL dx (Zx n a b))∧H a=some (.lst (rs.map V.str)))∧(∃ys,H q=some (.lst ys)∧xw t ms H rows ys∧rows.length≤B)∧bS t ms H B ps qs fr
 | _,_,_=>False
noncomputable def ic (a b c:Addr):List (Str × V):=[("heads",.ref a),("bodies",.ref b),("labels",.ref c)]
noncomputable def J7 (ls:List Str):List (Key × V):=ls.map fun l=>(.inr l,.bl true)
structure lB (t:xj) (H:Hp) (me dx hd bd lb:Addr) (hps bqs:List Addr) (fr:List Fr) (ls:List Str) (B:Nat):Prop where
 nd:(me :: hd :: bd :: lb :: bqs).Nodup
 se:H me=some (.ins t.qN dx (ic hd bd lb))
 hh:H hd=some (.lst (hps.map V.ref).reverse)
 hb:H bd=some (.lst (bqs.map V.ref).reverse)
 hl:H lb=some (.dK (J7 ls))
 fa:bS t (me :: hd :: bd :: lb :: bqs) H B hps bqs fr
 lE:ls.length≤B
noncomputable def wt (t:xj) (H:Hp) (me:Addr) (fr:List Fr) (ls:List Str) (B:Nat) (ms:List Addr):Prop:=∃dx hd bd lb hps bqs,ms=me :: hd :: bd :: lb :: bqs∧lB t H me dx hd bd lb hps bqs fr ls B
theorem bS.len {t:xj} {ms:List Addr} {H:Hp} {B:Nat}:∀{ps qs:List Addr} {fr:List Fr},bS t ms H B ps qs fr→ps.length=fr.length∧qs.length=fr.length
 | [],[],[],_=>⟨rfl,rfl⟩
 | p :: ps,q :: qs,(n,rs,rows) :: fr,h=>by
  have:=bS.len h.2.2
  simp [this.1,this.2]
theorem bS.move {t:xj} {ms ms':List Addr} {H H':Hp} {B B':Nat} (hk:Fm ms H H') (hm:∀b∈ms',b∈ms∨H b=none) (hB:B≤B'):∀{ps qs:List Addr} {fr:List Fr},bS t ms H B ps qs fr→(∀q∈qs,∀o,H q=some o→H' q=some o)→bS t ms' H' B' ps qs fr
 | [],[],[],_,_=>True.intro
 | p :: ps,q :: qs,(n,rs,rows) :: fr,h,hq=>by
  obtain⟨⟨dx,a,b,h1,h2,h3,h4⟩,⟨ys,h5,h6,h7⟩,h8⟩:=h
  exact⟨⟨dx,a,b,mC hm h1 h3,mC hm h2 h4,hk _ _ h1 h3,hk _ _ h2 h4⟩,⟨ys,hq q List.mem_cons_self _ h5,h6.move hk hm,by omega⟩,bS.move hk hm hB h8 fun c hc=>hq c (List.mem_cons_of_mem _ hc)⟩
theorem bS.ZE {t:xj} {ms:List Addr} {H:Hp} {B:Nat}:∀{ps qs:List Addr} {fr:List Fr},bS t ms H B ps qs fr→∀q∈qs,∃o,H q=some o
 | [],[],[],_,q,hq=>by cases hq
 | p :: ps,q :: qs,(n,rs,rows) :: fr,h,c,hc=>by
  obtain⟨_,⟨ys,h5,_,_⟩,h8⟩:=h
  (rcases List.mem_cons.mp hc with rfl | hc)
  ·exact⟨_,h5⟩
  ·exact bS.ZE h8 c hc
theorem lB.ZE {t:xj} {H:Hp} {me dx hd bd lb:Addr} {hps bqs:List Addr} {fr:List Fr} {ls:List Str} {B:Nat} (h:lB t H me dx hd bd lb hps bqs fr ls B):∀b∈me :: hd :: bd :: lb :: bqs,∃o,H b=some o:=by
 intro b hb
 simp only[List.mem_cons] at hb
 rcases hb with rfl | rfl | rfl | rfl | hb
 ·exact⟨_,h.se⟩
 ·exact⟨_,h.hh⟩
 ·exact⟨_,h.hb⟩
 ·exact⟨_,h.hl⟩
 ·exact h.fa.ZE b hb
theorem bS.inv {t:xj} {ms:List Addr} {H:Hp} {B:Nat} {n:Str} {rs:List Str} {rows:List Rw} {fr:List Fr}:∀{hps bqs:List Addr},bS t ms H B hps bqs ((n,rs,rows) :: fr)→∃p ps q qs,hps=p :: ps∧bqs=q :: qs∧(∃dx a b,p∉ms∧a∉ms∧H p=some (.ins t.jL dx (Zx n a b))∧H a=some (.lst (rs.map V.str)))∧(∃ys,H q=some (.lst ys)∧xw t ms H rows ys∧rows.length≤B)∧bS t ms H B ps qs fr
 | [],_,h=>by simp [bS] at h
 | _ :: _,[],h=>by simp [bS] at h
 | p :: ps,q :: qs,h=>⟨p,ps,q,qs,rfl,rfl,h.1,h.2.1,h.2.2⟩
section
variable {P:Program} {w:World} {K:PySem.W.Frag} {mg:Str→Option Value} {base:Heap} {t:xj}
end
noncomputable def tK (t:xj):Sp:=fun vs H Q _=>∃(self:Addr) (fr:List Fr) (ls:List Str) (B:Nat) (ms:List Addr),vs=[.ref self]∧wt t H self fr ls B ms∧Q (.int (((fr.length:Nat):Int) - 1)) H
noncomputable def aB (t:xj):Sp:=fun vs H Q _=>∃(self:Addr) (y:V) (n:Str) (rs:List Str) (rows:List Rw) (fr:List Fr) (ls:List Str) (B:Nat) (ms:List Addr) (r:Rw),vs=[.ref self,y]∧wt t H self ((n,rs,rows) :: fr) ls B ms∧bN t ms H r y∧B < 1000∧∀H',Fm ms H H'→wt t H' self ((n,rs,rows ++ [r]) :: fr) ls (B + 1) ms→Q .non H'
noncomputable def uC (t:xj):Sp:=fun vs H Q _=>∃(self:Addr) (n:Str) (rs:List Str) (rows:List Rw) (fr:List Fr) (ls:List Str) (B:Nat) (ms:List Addr),vs=[.ref self]∧wt t H self ((n,rs,rows) :: fr) ls B ms∧B≤1000∧∀p H' ms',Fm ms H H'→(∀b∈ms',b∈ms)→wt t H' self fr ls B ms'→bN t ms' H' (.pt n rs rows) (.ref p)→Q (.ref p) H'
section
variable {P:Program} {w:World} {K:PySem.W.Frag} {mg:Str→Option Value} {base:Heap} {t:xj}
theorem b1:¬(("bodies" : Str) = "heads"):=by decide +kernel
theorem b2:¬(("labels" : Str) = "heads"):=by decide +kernel
theorem b3:¬(("labels" : Str) = "bodies"):=by decide +kernel
section
variable {H:Hp} {self dx hd bd lb:Addr} {hps bqs:List Addr} {fr:List Fr} {ls:List Str} {B:Nat}
theorem lB.f1 (h:lB t H self dx hd bd lb hps bqs fr ls B) (T:Txt K mg t):VH K H (.ref self) "heads" (.ref hd):=⟨self,_,dx,_,rfl,h.se,T.jY,T.wy,xb⟩
theorem lB.f2 (h:lB t H self dx hd bd lb hps bqs fr ls B) (T:Txt K mg t):VH K H (.ref self) "bodies" (.ref bd):=⟨self,_,dx,_,rfl,h.se,T.jY,T.ku,(ka b1).trans xb⟩
theorem lB.f3 (h:lB t H self dx hd bd lb hps bqs fr ls B) (T:Txt K mg t):VH K H (.ref self) "labels" (.ref lb):=⟨self,_,dx,_,rfl,h.se,T.jY,T.yW,(ka b2).trans ((ka b3).trans xb)⟩
end
theorem mT:qV ["self"] ["self"] (z7 jh):=⟨rfl,rfl,rfl,by decide +kernel,rfl,by decide +kernel,by decide +kernel⟩
set_option maxHeartbeats 400000 in
theorem vK (T:Txt K mg t):qW P w K mg base jW 1 t.ko t.vL ["self"] (tK t):=by
 refine T.kh.fn.ok mT (fun vs H Q E h=>(by obtain⟨_,_,_,_,_,rfl,_⟩:=h;rfl)) (fun cdv A outer s H vs Q E hr h=>?_)
 obtain⟨self,fr,ls,B,ms,rfl,⟨dx,hd,bd,lb,hps,bqs,rfl,h⟩,k⟩:=h
 refine⟨_,(qx (qt (qk fF (qG (jv (K:=K) rfl) rfl T.kf PySem.boot_len (z6 (kG (K:=K) rfl (pv 0) rfl) qz)) z9))),?_⟩
 refine⟨_,rfl,_,h.f1 T,hd,_,rfl,.inl (jx.of h.hh),?_⟩
 refine⟨_,_,rfl,rfl,?_⟩
 have:(hps.map V.ref).reverse.length=fr.length:=by rw[List.length_reverse,List.length_map];exact h.fa.len.1
 rw[this]
 exact k
theorem uY:qV ["self","row"] ["self","row"] (z7 jP):=⟨rfl,rfl,rfl,by decide +kernel,rfl,by decide +kernel,by decide +kernel⟩
set_option maxHeartbeats 400000 in
theorem yY (T:Txt K mg t):qW P w K mg base jW 1 t.wq t.gZ ["self","row"] (aB t):=by
 refine T.wo.fn.ok uY (fun vs H Q E h=>(by obtain⟨_,_,_,_,_,_,_,_,_,_,rfl,_⟩:=h;rfl)) (fun cdv A outer s H vs Q E hr h=>?_)
 obtain⟨self,y,n,rs,rows,fr,ls,B,ms,r,rfl,⟨dx,hd,bd,lb,hps,bqs,rfl,h⟩,hr',hB,k⟩:=h
 refine⟨_,(qx (kK (vw PySem.F.plainAttrs_list PySem.F.slot_list_append PySem.F.type_list_append vO (qJ (qu (K:=K) rfl) (kG (K:=K) rfl (pv 0) rfl) (Vc JS z9) (fun _ _=>rfl)) (z6 (pv 1) qz)))),?_⟩
 obtain⟨nd,se,hh,hb,hl,fa,lE⟩:=id h
 obtain⟨p,ps,q,qs,rfl,rfl,f1,⟨ys,e1,e2,e3⟩,f3⟩:=fa.inv
 refine⟨_,rfl,_,h.f2 T,?_⟩
 refine⟨_,rfl,bd,_,_,.ref q,rfl,rfl,jx.of hb,(by rw[List.map_cons,List.reverse_cons];exact Qq _ _),?_⟩
 have hq:q∈self :: hd :: bd :: lb :: q :: qs:=by simp
 refine⟨.inl ⟨rfl,_,jx.of e1⟩,_,rfl,q,ys,_,rfl,rfl,e1,qp (by have:=e2.len;omega),?_⟩
 intro H' k' e'
 have fm:Fm (self :: hd :: bd :: lb :: q :: qs) H H':=fun b o hb e=>by rw[k' b (fun z=>hb (by rw[z];exact hq))];exact e
 have ne:∀b,b∈self :: hd :: bd :: lb :: qs→b≠q:=fun b hx z=>by
  subst z
  simp only[List.nodup_cons,List.mem_cons,not_or] at nd hx
  rcases hx with hx | hx | hx | hx | hx
  ·exact nd.1.2.2.2.1 hx.symm
  ·exact nd.2.1.2.2.1 hx.symm
  ·exact nd.2.2.1.2.1 hx.symm
  ·exact nd.2.2.2.1.1 hx.symm
  ·exact nd.2.2.2.2.1 hx
 have hm:∀b∈self :: hd :: bd :: lb :: q :: qs,b∈self :: hd :: bd :: lb :: q :: qs∨H b=none:=fun b hb=>.inl hb
 refine k H' fm ⟨dx,hd,bd,lb,p :: ps,q :: qs,rfl,nd,?_,?_,?_,?_,⟨?_,⟨ys ++ [y],e',xw.snoc (hr'.move fm hm) (e2.move fm hm),?_⟩,f3.move fm hm (Nat.le_succ _) fun c hc o e=>by rw[k' c (ne c (by simp [hc]))];exact e⟩,by omega⟩
 ·rw[k' self (ne self (by simp))];exact se
 ·rw[k' hd (ne hd (by simp))];exact hh
 ·rw[k' bd (ne bd (by simp))];exact hb
 ·rw[k' lb (ne lb (by simp))];exact hl
 ·obtain⟨dx',a,b,g1,g2,g3,g4⟩:=f1
  exact⟨dx',a,b,g1,g2,fm _ _ g1 g3,fm _ _ g2 g4⟩
 ·rw[List.length_append];simp only[List.length_cons,List.length_nil];omega
theorem YU {a b c d q:Addr} {qs:List Addr} (h:(a :: b :: c :: d :: q :: qs).Nodup):(a :: b :: c :: d :: qs).Nodup∧∀x∈a :: b :: c :: d :: qs,x≠q:=by
 have h':=h
 simp only[List.nodup_cons,List.mem_cons,not_or] at h ⊢
 refine⟨⟨⟨h.1.1,h.1.2.1,h.1.2.2.1,h.1.2.2.2.2⟩,⟨h.2.1.1,h.2.1.2.1,h.2.1.2.2.2⟩,⟨h.2.2.1.1,h.2.2.1.2.2⟩,h.2.2.2.1.2,h.2.2.2.2.2⟩,fun x hx z=>?_⟩
 subst z
 rcases hx with hx | hx | hx | hx | hx
 ·exact h.1.2.2.2.1 hx.symm
 ·exact h.2.1.2.2.1 hx.symm
 ·exact h.2.2.1.2.1 hx.symm
 ·exact h.2.2.2.1.1 hx.symm
 ·exact h.2.2.2.2.1 hx
theorem pG:qV ["self","head"] ["self"] (z7 jB):=⟨rfl,rfl,rfl,by decide +kernel,rfl,by decide +kernel,by decide +kernel⟩
set_option maxHeartbeats 400000 in
theorem pZ (T:Txt K mg t):qW P w K mg base jW 3 t.wz t.gi ["self"] (uC t):=by
 have M_Part_init:qW P w K mg base jW 1 t.km t.k9 ["self","name","rooms","rows"] (Kc K t):=(bJ T).mono (by decide)
 refine T.yL.fn.ok pG (fun vs H Q E h=>(by obtain⟨_,_,_,_,_,_,_,_,rfl,_⟩:=h;rfl)) (fun cdv A outer s H vs Q E hr h=>?_)
 obtain⟨self,n,rs,rows,fr,ls,B,ms,rfl,⟨dx,hd,bd,lb,hps,bqs,rfl,h⟩,hB,k⟩:=h
 refine⟨_,(z8 (qi (i:=1) pG.nd rfl (Or.inl rfl) (Q8 PySem.F.plainAttrs_list PySem.F.slot_list_pop PySem.F.type_list_pop QO (kG (K:=K) rfl (pv 0) rfl)))
   (qx (qt (wg T.mX M_Part_init hr rfl T.uz T.ym.bd .nil qY (z6 (kG (K:=K) rfl (pv 1) rfl) (z6 (kG (K:=K) rfl (pv 1) rfl) (z6 (Q8 PySem.F.plainAttrs_list PySem.F.slot_list_pop PySem.F.type_list_pop QO (kG (K:=K) rfl (pv 0) rfl)) qz))))))),?_⟩
 obtain⟨nd,se,hh,hb,hl,fa,lE⟩:=id h
 obtain⟨p,ps,q,qs,rfl,rfl,⟨dx',a,b,g1,g2,g3,g4⟩,⟨ys,e1,e2,e3⟩,f3⟩:=fa.inv
 have ZE:=h.ZE
 refine⟨_,rfl,_,h.f1 T,?_⟩
 refine⟨.inl ⟨rfl,_,jx.of hh⟩,hd,_,.ref p,rfl,rfl,hh,(by rw[List.map_cons,List.reverse_cons];simp),?_⟩
 intro H1 k1 e1'
 rw[List.map_cons,List.reverse_cons,List.dropLast_concat] at e1'
 obtain⟨nd2,nq⟩:=YU nd
 have nab:hd≠bd:=by simp only[List.nodup_cons,List.mem_cons,not_or] at nd;exact nd.2.1.1
 have nsh:self≠hd:=by simp only[List.nodup_cons,List.mem_cons,not_or] at nd;exact nd.1.1
 have nsb:self≠bd:=by simp only[List.nodup_cons,List.mem_cons,not_or] at nd;exact nd.1.2.1
 have nlh:lb≠hd:=by simp only[List.nodup_cons,List.mem_cons,not_or] at nd;exact fun z=>nd.2.1.2.1 z.symm
 have nlb:lb≠bd:=by simp only[List.nodup_cons,List.mem_cons,not_or] at nd;exact fun z=>nd.2.2.1.1 z.symm
 have ph:p≠hd:=fun z=>g1 (by rw[z];simp)
 have ah:a≠hd:=fun z=>g2 (by rw[z];simp)
 have p1:H1 p=some (.ins t.jL dx' (Zx n a b)):=by rw[k1 p ph];exact g3
 have a1:H1 a=some (.lst (rs.map V.str)):=by rw[k1 a ah];exact g4
 have s1:H1 self=some (.ins t.qN dx (ic hd bd lb)):=by rw[k1 self nsh];exact se
 have b1':H1 bd=some (.lst ((q :: qs).map V.ref).reverse):=by rw[k1 bd (Ne.symm nab)];exact hb
 refine⟨_,rfl,_,⟨p,_,dx',_,rfl,p1,T.bg,T.yy,xb⟩,?_⟩
 refine⟨_,rfl,_,⟨p,_,dx',_,rfl,p1,T.bg,T.gQ,(ka (fun z=>m2 z.symm)).trans xb⟩,?_⟩
 refine⟨_,rfl,_,⟨self,_,dx,_,rfl,s1,T.jY,T.ku,(ka b1).trans xb⟩,?_⟩
 refine⟨.inl ⟨rfl,_,jx.of b1'⟩,bd,_,.ref q,rfl,rfl,b1',(by rw[List.map_cons,List.reverse_cons];simp),?_⟩
 intro H2 k2 e2'
 rw[List.map_cons,List.reverse_cons,List.dropLast_concat] at e2'
 intro x dxx hx hdx hne
 have keep2:∀c o,c≠hd→c≠bd→H c=some o→H2 c=some o:=fun c o h1 h2 e=>by rw[k2 c h2,k1 c h1];exact e
 have keepm:∀c o,H2 c=some o→(upd (upd H2 dxx (HO.own x)) x (HO.ins t.jL dxx [])) c=some o:=gp hx hdx
 have ab:a≠bd:=fun z=>g2 (by rw[z];simp)
 have qh:q≠hd:=Ne.symm (nq hd (by simp))
 have qb':q≠bd:=Ne.symm (nq bd (by simp))
 refine⟨x,dxx,a,q,n,rs,ys,rfl,qr,keepm _ _ (keep2 _ _ ah ab g4),keepm _ _ (keep2 _ _ qh qb' e1),fun H3 o3 h3=>⟨rfl,?_⟩⟩
 obtain⟨dx3,qa,qb,r1,r2,r3,z1,z2⟩:=h3
 have keep3:∀c o,H2 c=some o→H3 c=some o:=fun c o e=>o3 c o (qm e hx) (keepm c o e)
 have ke:∀c o,c≠hd→c≠bd→H c=some o→H3 c=some o:=fun c o h1 h2 e=>keep3 c o (keep2 c o h1 h2 e)
 have h2h:H2 hd=some (.lst (ps.map V.ref).reverse):=by rw[k2 hd nab];exact e1'
 have sub:∀c∈self :: hd :: bd :: lb :: qs,c∈self :: hd :: bd :: lb :: q :: qs:=fun c hc=>by
  simp only[List.mem_cons] at hc ⊢
  rcases hc with z | z | z | z | z<;>simp [z]
 have fm:Fm (self :: hd :: bd :: lb :: q :: qs) H H3:=fun c o hc e=>ke c o (fun z=>hc (by rw[z];simp)) (fun z=>hc (by rw[z];simp)) e
 have dom2:∀c∈self :: hd :: bd :: lb :: qs,∃o,H2 c=some o:=fun c hc=>by
  by_cases q1:c=hd
  ·subst q1;exact⟨_,h2h⟩
  ·by_cases q2:c=bd
   ·subst q2;exact⟨_,e2'⟩
   ·obtain⟨o,e⟩:=ZE c (sub c hc)
    exact⟨o,keep2 c o q1 q2 e⟩
 have ni:∀y,(upd (upd H2 dxx (HO.own x)) x (HO.ins t.jL dxx [])) y=none→y∉self :: hd :: bd :: lb :: qs:=fun y e hy=>by
  obtain⟨o,e'⟩:=dom2 y hy
  rw[keepm y o e'] at e;cases e
 have hm:∀c∈self :: hd :: bd :: lb :: qs,c∈self :: hd :: bd :: lb :: q :: qs∨H c=none:=fun c hc=>.inl (sub c hc)
 have nqs:∀c∈qs,c≠hd∧c≠bd:=fun c hc=>by
  simp only[List.nodup_cons,List.mem_cons,not_or] at nd2
  exact⟨fun z=>nd2.2.1.2.2 (by rw[←z];exact hc),fun z=>nd2.2.2.1.2 (by rw[←z];exact hc)⟩
 refine k x H3 (self :: hd :: bd :: lb :: qs) fm sub ⟨dx,hd,bd,lb,ps,qs,rfl,nd2,ke _ _ nsh nsb se,keep3 _ _ h2h,keep3 _ _ e2',ke _ _ nlh nlb hl,f3.move fm hm (Nat.le_refl _) (fun c hc o e=>ke c o (nqs c hc).1 (nqs c hc).2 e),lE⟩ ?_
 unfold bN
 refine⟨x,dx3,qa,qb,ys,rfl,fun hxm=>?_,ni qa z1,ni qb z2,r1,r2,r3,e2.move fm hm⟩
 obtain⟨o,e'⟩:=dom2 x hxm
 rw[hx] at e';cases e'
end
noncomputable def JZ (t:xj):Sp:=fun vs H Q _=>∃(self:Addr) (fr:List Fr) (ls:List Str) (B:Nat) (ms:List Addr),vs=[.ref self]∧wt t H self fr ls B ms∧B < 1000∧fr≠[]∧(fr.length=1→Q (.bl false) H)∧
 ∀n rs rows n2 rs2 rows2 fr',fr=(n,rs,rows) :: (n2,rs2,rows2) :: fr'→∀H' ms',Fm ms H H'→(∀b∈ms',b∈ms)→wt t H' self ((n2,rs2,rows2 ++ [.pt n rs rows]) :: fr') ls (B + 1) ms'→Q (.bl true) H'
noncomputable def JJ (t:xj):Sp:=fun vs H Q _=>∃(self p dx a b:Addr) (n:Str) (rs:List Str) (fr:List Fr) (ls:List Str) (B:Nat) (ms:List Addr),vs=[.ref self,.ref p]∧wt t H self fr ls B ms∧B < 1000∧fr.length≤7∧p∉ms∧a∉ms∧H p=some (.ins t.jL dx (Zx n a b))∧H a=some (.lst (rs.map V.str))∧(fr.length=7∨n∈ls→Q (.bl false) H)∧
 (¬(fr.length=7∨n∈ls)→∀H' ms',Fm ms H H'→(∀b∈ms',b∈ms∨H b=none)→wt t H' self ((n,rs,[]) :: fr) (ls ++ [n]) (B + 1) ms'→Q (.bl true) H')
noncomputable def Ja (t:xj):Sp:=fun vs H Q _=>∃(self p:Addr) (k:Int) (l u a:Str) (n:Int) (r:Str) (pn:Str) (rs:List Str) (rows:List Rw) (fr:List Fr) (ls:List Str) (B:Nat) (ms:List Addr),vs=[.ref self,.ref p]∧wt t H self ((pn,rs,rows) :: fr) ls B ms∧B < 998∧p∉ms∧At t H p k l u a n r∧(l∈ls→Q (.bl false) H)∧
 (l∉ls→∀H',Fm ms H H'→wt t H' self ((pn,rs,rows ++ [.cl k l u a n r]) :: fr) (ls ++ [l]) (B + 2) ms→Q (.bl true) H')
theorem fY {a b c:Addr} {m:Str} (h1:¬m = "heads") (h2:¬m = "bodies") (h3:¬m = "labels"):(ic a b c).lookup m=none:=(ka h1).trans ((ka h2).trans ((ka h3).trans rfl))
theorem su {a b c:Addr}:(ic a b c).lookup ("many_open" : Str)=none:=fY (by decide +kernel) (by decide +kernel) (by decide +kernel)
theorem iG {a b c:Addr}:(ic a b c).lookup ("put_in" : Str)=none:=fY (by decide +kernel) (by decide +kernel) (by decide +kernel)
theorem rA {a b c:Addr}:(ic a b c).lookup ("closed" : Str)=none:=fY (by decide +kernel) (by decide +kernel) (by decide +kernel)
theorem YS {a b c:Addr}:(ic a b c).lookup ("takes_done" : Str)=none:=fY (by decide +kernel) (by decide +kernel) (by decide +kernel)
theorem YT {a b c:Addr}:(ic a b c).lookup ("takes_head" : Str)=none:=fY (by decide +kernel) (by decide +kernel) (by decide +kernel)
theorem YL {a b c:Addr}:(ic a b c).lookup ("takes_clause" : Str)=none:=fY (by decide +kernel) (by decide +kernel) (by decide +kernel)
theorem YN {a b c:Addr}:(ic a b c).lookup ("takes" : Str)=none:=fY (by decide +kernel) (by decide +kernel) (by decide +kernel)
theorem iZ {ls:List Str} {n:Str}:(bU (J7 ls) (.inr n)).isSome=decide (n∈ls):=by
 rw[←m5]
 unfold J7
 rw[List.any_map]
 rw[Bool.eq_iff_iff]
 simp
theorem aw {ls:List Str} {n:Str} (h:n∉ls):putK (J7 ls) (.inr n) (.bl true)=J7 (ls ++ [n]):=by
 rw[Jw]
 ·unfold J7;rw[List.map_append];rfl
 ·have:=@iZ ls n
  rw[decide_eq_false h] at this
  cases q:bU (J7 ls) (.inr n) with
  | none=>rfl
  | some v=>rw[q] at this;cases this
section
variable {P:Program} {w:World} {K:PySem.W.Frag} {mg:Str→Option Value} {base:Heap} {t:xj}
theorem fU:qV ["self"] ["self"] (z7 q9):=⟨rfl,rfl,rfl,by decide +kernel,rfl,by decide +kernel,by decide +kernel⟩
set_option maxHeartbeats 400000 in
theorem fB (T:Txt K mg t):qW P w K mg base jW 5 t.kq t.vp ["self"] (JZ t):=by
 refine T.wN.fn.ok fU (fun vs H Q E h=>(by obtain⟨_,_,_,_,_,rfl,_⟩:=h;rfl)) (fun cdv A outer s H vs Q E hr h=>?_)
 obtain⟨self,fr,ls,B,ms,rfl,hb,hB,hne,k0,k1⟩:=h
 refine⟨_,(z8 (qM (ql jk (yc hr (pv 0)) z9 (qe _))
    (qx (qt wF)) qo)
   (z8 (kK (gT hr (pv 0) (z6 (yc hr (pv 0)) qz)))
   (qx (qt wF)))),?_⟩
 have M1:kN P w K mg base jW 4 t.qN "many_open" (tK t):=.mk' T.ky (vK T) T.kh.bd (by decide)
 have M2:kN P w K mg base jW 4 t.qN "put_in" (aB t):=.mk' T.vX (yY T) T.wo.bd (by decide)
 have M3:kN P w K mg base jW 4 t.qN "closed" (uC t):=.mk' T.yX (pZ T) T.yL.bd (by decide)
 obtain⟨dx,hd,bd,lb,hps,bqs,e,h⟩:=id hb
 refine⟨_,rfl,self,_,dx,_,rfl,h.se,T.jY,su,_,M1,?_⟩
 refine⟨self,fr,ls,B,ms,rfl,hb,?_⟩
 walk_at "rd"
 refine jy (fun h1=>?_) (fun h1=>?_)
 ·walk_at "rd"
  exact k0 (by
   have:((fr.length:Nat):Int) - 1=0:=by simpa using h1
   omega)
 match fr,hne with
 | [(n,rs,rows)],_=>exact absurd rfl h1
 | (n,rs,rows) :: (n2,rs2,rows2) :: fr',_=>
  walk_at "rd"
  refine⟨self,_,dx,_,rfl,h.se,T.jY,iG,_,M2,?_⟩
  refine⟨_,rfl,self,_,dx,_,rfl,h.se,T.jY,rA,_,M3,?_⟩
  refine⟨self,n,rs,rows,_,ls,B,ms,rfl,hb,by omega,fun p H1 ms1 fm1 sub1 hb1 hr1=>?_⟩
  refine⟨self,.ref p,n2,rs2,rows2,fr',ls,B,ms1,.pt n rs rows,rfl,hb1,hr1,hB,fun H2 fm2 hb2=>?_⟩
  exact k1 _ _ _ _ _ _ _ rfl H2 ms1 (fm1.trans fm2 (fun b hb=>.inl (sub1 b hb))) sub1 hb2
theorem fR:qV ["self","head"] ["self","head"] (z7 jz):=⟨rfl,rfl,rfl,by decide +kernel,rfl,by decide +kernel,by decide +kernel⟩
set_option maxHeartbeats 400000 in
theorem fP (T:Txt K mg t):qW P w K mg base jW 3 t.kj t.vf ["self","head"] (JJ t):=by
 refine T.wO.fn.ok fR (fun vs H Q E h=>(by obtain⟨_,_,_,_,_,_,_,_,_,_,_,rfl,_⟩:=h;rfl)) (fun cdv A outer s H vs Q E hr h=>?_)
 obtain⟨self,p,dxp,a,b,n,rs,fr,ls,B,ms,rfl,hb,hB,h7,hp,ha,ep,ea,k0,k1⟩:=h
 refine⟨_,(z8 (qM (PW.pt (vU (ql jk (yc hr (pv 0)) (jm rfl (T.dP).choose_spec (v:=.int 6) ⟨_,rfl⟩) (qe _)) (vI (Jv (Q7 (ak hr) (kG (K:=K) rfl (pv 1) rfl) (kG (K:=K) rfl (pv 0) rfl))))))
    (qx (qt wF)) qo)
   (z8 (iD wF (Jx (kG (K:=K) rfl (pv 0) rfl) (kG (K:=K) rfl (pv 1) rfl) (lj (ak hr))))
   (z8 (kK (vw PySem.F.plainAttrs_list PySem.F.slot_list_append PySem.F.type_list_append vO (kG (K:=K) rfl (pv 0) rfl) (z6 (pv 1) qz)))
   (z8 (kK (vw PySem.F.plainAttrs_list PySem.F.slot_list_append PySem.F.type_list_append vO (kG (K:=K) rfl (pv 0) rfl) (z6 (qO qz) qz)))
   (qx (qt wF)))))),?_⟩
 have M1:kN P w K mg base jW 2 t.qN "many_open" (tK t):=.mk' T.ky (vK T) T.kh.bd (by decide)
 obtain⟨dx,hd,bd,lb,hps,bqs,e,h⟩:=id hb
 have fnm:VH K H (.ref p) "name" (.str n):=⟨p,_,dxp,_,rfl,ep,T.bg,T.yy,xb⟩
 refine⟨_,rfl,self,_,dx,_,rfl,h.se,T.jY,su,_,M1,?_⟩
 refine⟨self,fr,ls,B,ms,rfl,hb,?_⟩
 walk_at "rd"
 refine jy (fun h1=>?_) (fun h1=>?_)
 ·walk_at "rd"
  exact k0 (.inl (by
   have:((fr.length:Nat):Int) - 1=6:=by simpa using h1
   omega))
 have n7:¬fr.length=7:=fun z=>h1 (by rw[z];rfl)
 refine⟨_,rfl,_,fnm,_,rfl,_,h.f3 T,lb,_,rfl,cF.k (k:=.inr n) h.hl,?_⟩
 rw[iZ]
 subst e
 obtain⟨nd,se,hh,hbb,hl,fa,lE⟩:=id h
 have ndx:=nd
 simp only[List.nodup_cons,List.mem_cons,not_or] at ndx
 obtain⟨⟨nsh,nsb,nsl,_⟩,⟨nhb,nhl,_⟩,⟨nbl,_⟩,_,_⟩:=ndx
 refine⟨_,rfl,?_⟩
 refine jy (fun h2=>?_) (fun h2=>?_)
 ·exact k0 (.inr (of_decide_eq_true h2))
 have hnl:n∉ls:=fun z=>h2 (decide_eq_true z)
 refine⟨_,rfl,_,h.f3 T,_,rfl,_,fnm,lb,_,.inr n,rfl,rfl,hl,qp (by unfold J7;rw[List.length_map];omega),?_⟩
 intro H1 k1' e1
 rw[aw hnl] at e1
 have s1:H1 self=some (.ins t.qN dx (ic hd bd lb)):=by rw[k1' self nsl];exact se
 have h1':H1 hd=some (.lst (hps.map V.ref).reverse):=by rw[k1' hd nhl];exact hh
 have b1':H1 bd=some (.lst (bqs.map V.ref).reverse):=by rw[k1' bd nbl];exact hbb
 have lh:=fa.len
 refine⟨_,rfl,_,⟨self,_,dx,_,rfl,s1,T.jY,T.wy,xb⟩,.inl ⟨rfl,_,jx.of h1'⟩,_,rfl,hd,_,_,rfl,rfl,h1',qp (by rw[List.length_reverse,List.length_map];omega),?_⟩
 intro H2 k2 e2
 have s2:H2 self=some (.ins t.qN dx (ic hd bd lb)):=by rw[k2 self nsh];exact s1
 have b2':H2 bd=some (.lst (bqs.map V.ref).reverse):=by rw[k2 bd (Ne.symm nhb)];exact b1'
 have l2':H2 lb=some (.dK (J7 (ls ++ [n]))):=by rw[k2 lb (Ne.symm nhl)];exact e1
 refine⟨_,rfl,_,⟨self,_,dx,_,rfl,s2,T.jY,T.ku,(ka b1).trans xb⟩,.inl ⟨rfl,_,jx.of b2'⟩,Nat.zero_le _,?_⟩
 intro q H3 s3 hq e3
 refine⟨bd,_,_,rfl,rfl,s3 _ _ b2',qp (by rw[List.length_reverse,List.length_map];omega),?_⟩
 intro H4 k4 e4
 have ke:∀c o,c≠hd→c≠bd→c≠lb→H c=some o→H4 c=some o:=fun c o z1 z2 z3 e=>by
  rw[k4 c z2];refine s3 _ _ ?_;rw[k2 c z1,k1' c z3];exact e
 have ZE:=h.ZE
 have dom2:∀c∈self :: hd :: bd :: lb :: bqs,∃o,H2 c=some o:=fun c hc=>by
  by_cases q1:c=hd
  ·subst q1;exact⟨_,e2⟩
  ·rw[k2 c q1]
   by_cases q3:c=lb
   ·subst q3;exact⟨_,e1⟩
   ·rw[k1' c q3];exact ZE c hc
 have qn:q∉self :: hd :: bd :: lb :: bqs:=fun z=>by
  obtain⟨o,e⟩:=dom2 q z
  rw[hq] at e;cases e
 have Hq:H q=none:=by
  cases z:H q with
  | none=>rfl
  | some o=>
   have q1:q≠hd:=fun y=>qn (by rw[y];simp)
   have q3:q≠lb:=fun y=>qn (by rw[y];simp)
   rw[k2 q q1,k1' q q3,z] at hq;cases hq
 have fm:Fm (self :: hd :: bd :: lb :: bqs) H H4:=fun c o hc e=>ke c o (fun z=>hc (by rw[z];simp)) (fun z=>hc (by rw[z];simp)) (fun z=>hc (by rw[z];simp)) e
 have hm:∀c∈self :: hd :: bd :: lb :: q :: bqs,c∈self :: hd :: bd :: lb :: bqs∨H c=none:=fun c hc=>by
  simp only[List.mem_cons] at hc
  rcases hc with z | z | z | z | z | z
  ·exact .inl (by simp [z])
  ·exact .inl (by simp [z])
  ·exact .inl (by simp [z])
  ·exact .inl (by simp [z])
  ·exact .inr (by rw[z];exact Hq)
  ·exact .inl (by simp [z])
 have qb:q≠bd:=fun y=>qn (by rw[y];simp)
 have q4:H4 q=some (.lst []):=by rw[k4 q qb];exact e3
 have nqs:∀c∈bqs,c≠hd∧c≠bd∧c≠lb:=fun c hc=>by
  simp only[List.nodup_cons,List.mem_cons,not_or] at nd
  exact⟨fun z=>nd.2.1.2.2 (by rw[←z];exact hc),fun z=>nd.2.2.1.2 (by rw[←z];exact hc),fun z=>nd.2.2.2.1 (by rw[←z];exact hc)⟩
 refine k1 (fun z=>z.elim n7 hnl) H4 (self :: hd :: bd :: lb :: q :: bqs) fm hm ⟨dx,hd,bd,lb,p :: hps,q :: bqs,rfl,?_,ke _ _ nsh nsb nsl se,?_,?_,?_,⟨⟨dxp,a,b,mC hm hp ep,mC hm ha ea,fm _ _ hp ep,fm _ _ ha ea⟩,⟨[],q4,by unfold xw;rfl,Nat.zero_le _⟩,fa.move fm hm (Nat.le_succ _) (fun c hc o e=>ke c o (nqs c hc).1 (nqs c hc).2.1 (nqs c hc).2.2 e)⟩,by rw[List.length_append];simp only[List.length_cons,List.length_nil];omega⟩
 ·have nd':=nd
  simp only[List.nodup_cons,List.mem_cons,not_or] at nd' qn ⊢
  exact⟨⟨nd'.1.1,nd'.1.2.1,nd'.1.2.2.1,Ne.symm qn.1,nd'.1.2.2.2⟩,⟨nd'.2.1.1,nd'.2.1.2.1,Ne.symm qn.2.1,nd'.2.1.2.2⟩,⟨nd'.2.2.1.1,Ne.symm qn.2.2.1,nd'.2.2.1.2⟩,⟨Ne.symm qn.2.2.2.1,nd'.2.2.2.1⟩,qn.2.2.2.2,nd'.2.2.2.2⟩
 ·rw[k4 hd nhb,List.map_cons,List.reverse_cons];exact s3 _ _ e2
 ·rw[List.map_cons,List.reverse_cons];exact e4
 ·rw[k4 lb (Ne.symm nbl)];exact s3 _ _ l2'
end
theorem wt.same {t:xj} {H H':Hp} {me:Addr} {fr:List Fr} {ls:List Str} {B:Nat} {ms:List Addr} (h:wt t H me fr ls B ms) (s:qf H H'):wt t H' me fr ls B ms:=by
 obtain⟨dx,hd,bd,lb,hps,bqs,e,h⟩:=h
 subst e
 exact⟨dx,hd,bd,lb,hps,bqs,rfl,h.nd,s _ _ h.se,s _ _ h.hh,s _ _ h.hb,s _ _ h.hl,h.fa.move (Fm.of s) (fun b hb=>.inl hb) (Nat.le_refl _) (fun c _ o e=>s _ _ e),h.lE⟩
theorem wt.up {t:xj} {H:Hp} {me:Addr} {fr:List Fr} {ls:List Str} {B B':Nat} {ms:List Addr} (h:wt t H me fr ls B ms) (hB:B≤B'):wt t H me fr ls B' ms:=by
 obtain⟨dx,hd,bd,lb,hps,bqs,e,h⟩:=h
 subst e
 exact⟨dx,hd,bd,lb,hps,bqs,rfl,h.nd,h.se,h.hh,h.hb,h.hl,h.fa.move (Fm.of (qf.refl _)) (fun b hb=>.inl hb) hB (fun c _ o e=>e),Nat.le_trans h.lE hB⟩
theorem wt.ZE {t:xj} {H:Hp} {me:Addr} {fr:List Fr} {ls:List Str} {B:Nat} {ms:List Addr} (h:wt t H me fr ls B ms):∀b∈ms,∃o,H b=some o:=by
 obtain⟨dx,hd,bd,lb,hps,bqs,e,h⟩:=h
 subst e
 exact h.ZE
theorem wt.out {t:xj} {H:Hp} {me:Addr} {fr:List Fr} {ls:List Str} {B:Nat} {ms:List Addr} {p:Addr} (h:wt t H me fr ls B ms) (hp:H p=none):p∉ms:=fun z=>by
 obtain⟨o,e⟩:=h.ZE p z
 rw[hp] at e;cases e
noncomputable def push:List Fr→Rw→List Fr
 | (n,rs,rows) :: fr,r=>(n,rs,rows ++ [r]) :: fr
 | [],_=>[]
noncomputable def vP (fr:List Fr) (ls:List Str) (x:Str):Option (List Fr × List Str):=
 if x = "done" then (match fr with
  | (n,rs,rows) :: (n2,rs2,rows2) :: fr'=>some ((n2,rs2,rows2 ++ [.pt n rs rows]) :: fr',ls)
  | _=>none)
 else match vk (xJ x) with
  | some (n,rs)=>if fr.length=7∨n∈ls then none else some ((n,rs,[]) :: fr,ls ++ [n])
  | none=>match ji (xJ x) with
   | some (k,l,u,a,n,r)=>if l∈ls then none else some (push fr (.cl k l u a n r),ls ++ [l])
   | none=>match sf (xJ x) with
    | none=>none
    | some (n,v)=>some (push fr (.lt n v),ls)
noncomputable def aF (t:xj):Sp:=fun vs H Q _=>∃(self:Addr) (x:Str) (fr:List Fr) (ls:List Str) (B:Nat) (ms:List Addr),vs=[.ref self,.str x]∧wt t H self fr ls B ms∧B < 998∧x.length≤400∧fr≠[]∧fr.length≤7∧(vP fr ls x=none→∀H',Fm ms H H'→Q (.bl false) H')∧
 ∀fr' ls' H' ms',vP fr ls x=some (fr',ls')→Fm ms H H'→(∀b∈ms',b∈ms∨H b=none)→wt t H' self fr' ls' (B + 2) ms'→Q (.bl true) H'
section
variable {P:Program} {w:World} {K:PySem.W.Frag} {mg:Str→Option Value} {base:Heap} {t:xj}
theorem pH:qV ["self","clause"] ["self","clause"] (z7 qL):=⟨rfl,rfl,rfl,by decide +kernel,rfl,by decide +kernel,by decide +kernel⟩
set_option maxHeartbeats 400000 in
theorem pQ (T:Txt K mg t):qW P w K mg base jW 3 t.xV t.kY ["self","clause"] (Ja t):=by
 refine T.vg.fn.ok pH (fun vs H Q E h=>(by obtain⟨_,_,_,_,_,_,_,_,_,_,_,_,_,_,_,rfl,_⟩:=h;rfl)) (fun cdv A outer s H vs Q E hr h=>?_)
 obtain⟨self,p,k,l,u,a,n,r,pn,rs,rows,fr,ls,B,ms,rfl,hb,hB,hp,hA,k0,k1⟩:=h
 refine⟨_,(z8 (qM (Jv (Q7 (ak hr) (kG (K:=K) rfl (pv 1) rfl) (kG (K:=K) rfl (pv 0) rfl)))
    (qx (qt wF)) qo)
   (z8 (iD wF (Jx (kG (K:=K) rfl (pv 0) rfl) (kG (K:=K) rfl (pv 1) rfl) (lj (ak hr))))
   (z8 (kK (gT hr (pv 0) (z6 (pv 1) qz)))
   (qx (qt wF))))),?_⟩
 have M2:kN P w K mg base jW 2 t.qN "put_in" (aB t):=.mk' T.vX (yY T) T.wo.bd (by decide)
 obtain⟨dx,hd,bd,lb,hps,bqs,e,h⟩:=id hb
 subst e
 have fl:=hA.fl T
 refine⟨_,rfl,_,fl,_,rfl,_,h.f3 T,lb,_,rfl,cF.k (k:=.inr l) h.hl,?_⟩
 rw[iZ]
 refine⟨_,rfl,?_⟩
 refine jy (fun h2=>?_) (fun h2=>?_)
 ·exact k0 (of_decide_eq_true h2)
 have hnl:l∉ls:=fun z=>h2 (decide_eq_true z)
 obtain⟨nd,se,hh,hbb,hl,fa,lE⟩:=id h
 have ndx:=nd
 simp only[List.nodup_cons,List.mem_cons,not_or] at ndx
 obtain⟨⟨nsh,nsb,nsl,_⟩,⟨nhb,nhl,_⟩,⟨nbl,_⟩,nlq,_⟩:=ndx
 refine⟨_,rfl,_,h.f3 T,_,rfl,_,fl,lb,_,.inr l,rfl,rfl,hl,qp (by unfold J7;rw[List.length_map];omega),?_⟩
 intro H1 k1' e1
 rw[aw hnl] at e1
 have fm:Fm (self :: hd :: bd :: lb :: bqs) H H1:=fun c o hc e=>by rw[k1' c (fun z=>hc (by rw[z];simp))];exact e
 have hm:∀c∈self :: hd :: bd :: lb :: bqs,c∈self :: hd :: bd :: lb :: bqs∨H c=none:=fun c hc=>.inl hc
 have s1:H1 self=some (.ins t.qN dx (ic hd bd lb)):=by rw[k1' self nsl];exact se
 have hb1:wt t H1 self ((pn,rs,rows) :: fr) (ls ++ [l]) (B + 1) (self :: hd :: bd :: lb :: bqs):=⟨dx,hd,bd,lb,hps,bqs,rfl,nd,s1,by rw[k1' hd nhl];exact hh,by rw[k1' bd nbl];exact hbb,e1,fa.move fm hm (Nat.le_succ _) (fun c hc o e=>by rw[k1' c (fun z=>nlq (by rw[←z];exact hc))];exact e),by rw[List.length_append];simp only[List.length_cons,List.length_nil];omega⟩
 refine⟨_,rfl,self,_,dx,_,rfl,s1,T.jY,iG,_,M2,?_⟩
 obtain⟨dxc,ec⟩:=hA
 have hr1:bN t (self :: hd :: bd :: lb :: bqs) H1 (.cl k l u a n r) (.ref p):=by unfold bN;exact⟨p,rfl,hp,dxc,fm _ _ hp ec⟩
 refine⟨_,rfl,self,.ref p,pn,rs,rows,fr,_,_,_,_,rfl,hb1,hr1,by omega,fun H2 fm2 hb2=>?_⟩
 exact k1 hnl H2 (fm.trans fm2 hm) hb2
theorem wc:qV ["self","row","head","clause","let"] ["self","row"] (z7 j7):=⟨rfl,rfl,rfl,by decide +kernel,rfl,by decide +kernel,by decide +kernel⟩
set_option maxHeartbeats 400000 in
theorem rj (T:Txt K mg t):qW P w K mg base jW 7 t.yv t.bb ["self","row"] (aF t):=by
 have G_v_clause_of:qW P w K mg base jW 6 t.wj t.v7 ["row"] (oF t):=(uc T).mono (by decide)
 have G_v_let_of:qW P w K mg base jW 6 t.br t.bf ["row"] (Vl t):=(oj T).mono (by decide)
 have G_v_part_of:qW P w K mg base jW 6 t.gz t.yI ["row"] (JW t):=(sZ T).mono (by decide)
 refine T.fX.fn.ok wc (fun vs H Q E h=>(by obtain⟨_,_,_,_,_,_,rfl,_⟩:=h;rfl)) (fun cdv A outer s H vs Q E hr h=>?_)
 obtain⟨self,x,fr,ls,B,ms,rfl,hb,hB,hx,hne,h7,k0,k1⟩:=h
 refine⟨_,(z8 (qM (ql jk (pv 1) qq (qe _))
    (qx (qt (yc hr (pv 0)))) qo)
   (z8 (qi (i:=2) wc.nd rfl (Or.inl rfl) (qZ G_v_part_of hr rfl T.gE.mg T.gE.fn.kp T.gE.bd .nil qY (z6 (pv 1) qz)))
   (z8 (qM (ql sH (pv 2) vY (qe _))
    (qx (qt (gT hr (pv 0) (z6 (pv 2) qz)))) qo)
   (z8 (qi (i:=3) wc.nd rfl (Or.inl rfl) (qZ G_v_clause_of hr rfl T.wR.mg T.wR.fn.kp T.wR.bd .nil qY (z6 (pv 1) qz)))
   (z8 (qM (ql sH (pv 3) vY (qe _))
    (qx (qt (gT hr (pv 0) (z6 (pv 3) qz)))) qo)
   (z8 (qi (i:=4) wc.nd rfl (Or.inl rfl) (qZ G_v_let_of hr rfl T.pM.mg T.pM.fn.kp T.pM.bd .nil qY (z6 (pv 1) qz)))
   (z8 (qM (ql sY (pv 4) vY (qe _))
    (qx (qt wF)) qo)
   (z8 (kK (gT hr (pv 0) (z6 (pv 4) qz)))
   (qx (qt wF)))))))))),?_⟩
 have M1:kN P w K mg base jW 6 t.qN "takes_done" (JZ t):=.mk' T.yK (fB T) T.wN.bd (by decide)
 have M2:kN P w K mg base jW 6 t.qN "takes_head" (JJ t):=.mk' T.yV (fP T) T.wO.bd (by decide)
 have M3:kN P w K mg base jW 6 t.qN "takes_clause" (Ja t):=.mk' T.wB (pQ T) T.vg.bd (by decide)
 have M4:kN P w K mg base jW 6 t.qN "put_in" (aB t):=.mk' T.vX (yY T) T.wo.bd (by decide)
 obtain⟨dx,hd,bd,lb,hps,bqs,e,h⟩:=id hb
 obtain⟨pn,prs,prow,fr0,rfl⟩:∃pn prs prow fr0,fr=(pn,prs,prow) :: fr0:=by
  match fr,hne with
  | (a,b,c) :: r,_=>exact⟨a,b,c,r,rfl⟩
 have se:=h.se
 have hmm:∀c∈ms,c∈ms∨H c=none:=fun c hc=>.inl hc
 walk_at "rd"
 refine jy (fun h1=>?_) (fun h1=>?_)
 ·have hxd:x = "done":=cH h1
  refine⟨_,rfl,self,_,dx,_,rfl,se,T.jY,YS,_,M1,?_⟩
  refine⟨self,_,ls,B,ms,rfl,hb,by omega,hne,fun hl1=>?_,fun n rs rows n2 rs2 rows2 fr' ef H' ms' fm sub hb'=>?_⟩
  ·refine k0 ?_ H (fun _ _ _ e=>e)
   unfold vP
   rw[if_pos hxd]
   have hf0:fr0=[]:=List.length_eq_zero_iff.mp (by simpa using hl1)
   rw[hf0]
  ·refine k1 _ _ H' ms' ?_ fm (fun b hb=>.inl (sub b hb)) (hb'.up (by omega))
   unfold vP
   rw[if_pos hxd,ef]
 have hxd:¬x = "done":=cB h1
 have eT:vP ((pn,prs,prow) :: fr0) ls x=(match vk (xJ x) with
  | some (n,rs)=>if ((pn,prs,prow) :: fr0).length=7∨n∈ls then none else some ((n,rs,[]) :: (pn,prs,prow) :: fr0,ls ++ [n])
  | none=>match ji (xJ x) with
   | some (k,l,u,a,n,r)=>if l∈ls then none else some (push ((pn,prs,prow) :: fr0) (.cl k l u a n r),ls ++ [l])
   | none=>match sf (xJ x) with
    | none=>none
    | some (n,v)=>some (push ((pn,prs,prow) :: fr0) (.lt n v),ls)):=by unfold vP;rw[if_neg hxd]
 walk_at "rd"
 refine fun H1 s1=>⟨fun h0=>?_,fun p n rs h0 hp hP=>?_⟩
 ·rw[h0] at eT
  walk_at "rd"
  refine fun H2 s2=>⟨fun h0c=>?_,fun p k l u a n r h0c hp hA=>?_⟩
  ·rw[h0c] at eT
   walk_at "rd"
   refine fun H3 s3=>⟨fun h0l=>?_,fun p n v h0l hp hL=>?_⟩
   ·rw[h0l] at eT
    walk_at "rd"
    exact k0 eT H3 (Fm.of ((s1.trans s2).trans s3))
   ·rw[h0l] at eT
    have sA:qf H H3:=(s1.trans s2).trans s3
    have hout:p∉ms:=(hb.same (s1.trans s2)).out hp
    walk_at "rd"
    refine⟨self,_,dx,_,rfl,sA _ _ se,T.jY,iG,_,M4,?_⟩
    refine⟨_,rfl,self,.ref p,pn,prs,prow,fr0,ls,B,ms,.lt n v,rfl,hb.same sA,(by unfold bN;exact⟨p,rfl,hout,hL⟩),by omega,fun H4 fm4 hb4=>?_⟩
    exact k1 _ _ H4 ms eT ((Fm.of sA).trans fm4 hmm) hmm (hb4.up (by omega))
  ·rw[h0c] at eT
   have sA:qf H H2:=s1.trans s2
   have hout:p∉ms:=(hb.same s1).out hp
   walk_at "rd"
   refine⟨self,_,dx,_,rfl,sA _ _ se,T.jY,YL,_,M3,?_⟩
   refine⟨_,rfl,self,p,k,l,u,a,n,r,pn,prs,prow,fr0,ls,B,ms,rfl,hb.same sA,hB,hout,hA,fun hl=>?_,fun hl H' fm hb'=>?_⟩
   ·exact k0 (by rw[eT];exact if_pos hl) H2 (Fm.of sA)
   ·exact k1 _ _ H' ms (by rw[eT];exact if_neg hl) ((Fm.of sA).trans fm hmm) hmm hb'
 ·rw[h0] at eT
  obtain⟨dxp,a,b,q1,q2,q3,z1,z2⟩:=hP
  walk_at "rd"
  refine⟨self,_,dx,_,rfl,s1 _ _ se,T.jY,YT,_,M2,?_⟩
  refine⟨_,rfl,self,p,dxp,a,b,n,rs,_,ls,B,ms,rfl,hb.same s1,by omega,h7,hb.out hp,hb.out z1,q1,q2,fun hl=>?_,fun hl H' ms' fm hm' hb'=>?_⟩
  ·exact k0 (by rw[eT];exact if_pos hl) H1 (Fm.of s1)
  ·exact k1 _ _ H' ms' (by rw[eT];exact if_neg hl) ((Fm.of s1).trans fm hmm) (fun c hc=>(hm' c hc).elim .inl (fun z=>.inr (s1.free z))) (hb'.up (by omega))
end
noncomputable def Gb (t:xj):Sp:=fun vs H Q _=>∃(self dx:Addr),vs=[.ref self]∧H self=some (.ins t.qN dx [])∧∀H' ms,(∀b o,b≠self→H b=some o→H' b=some o)→(∀b∈ms,b=self∨H b=none)→wt t H' self [("whole",[],[])] [] 0 ms→Q .non H'
noncomputable def vh:Nat→List Str→List Fr→List Str→Except Nat (List Fr)
 | _,[],fr,_=>.ok fr
 | i,x :: r,fr,ls=>if i=90 then .error i else match vP fr ls x with
  | none=>.error i
  | some (fr',ls')=>vh (i + 1) r fr' ls'
noncomputable def Qn (n:Nat):Except Nat (List Fr)→Except Nat Rw
 | .error i=>.error i
 | .ok [(a,b,c)]=>.ok (.pt a b c)
 | .ok _=>.error n
noncomputable def pR (rows:List Str) (start:Nat):Except Nat Rw:=Qn rows.length (vh start (rows.drop start) [("whole",[],[])] [])
theorem ZR {fr fr':List Fr} {ls ls':List Str} {x:Str} (h:vP fr ls x=some (fr',ls')) (h0:fr≠[]) (h7:fr.length≤7):fr'≠[]∧fr'.length≤7:=by
 obtain⟨pn,prs,prow,fr0,rfl⟩:∃pn prs prow fr0,fr=(pn,prs,prow) :: fr0:=by
  match fr,h0 with
  | (a,b,c) :: r,_=>exact⟨a,b,c,r,rfl⟩
 have hp:∀r,(push ((pn,prs,prow) :: fr0) r)≠[]∧(push ((pn,prs,prow) :: fr0) r).length≤7:=fun r=>⟨by simp [push],by simpa [push] using h7⟩
 unfold vP at h
 split at h
 ·match fr0,h with
  | (a,b,c) :: r,h=>
   cases h
   refine⟨by simp,?_⟩
   simp only[List.length_cons] at h7 ⊢
   omega
 ·split at h
  ·split at h
   ·cases h
   ·rename_i hn
    cases h
    refine⟨by simp,?_⟩
    have:¬((pn,prs,prow) :: fr0).length=7:=fun z=>hn (.inl z)
    simp only[List.length_cons] at h7 this ⊢
    omega
  ·split at h
   ·split at h
    ·cases h
    ·cases h;exact hp _
   ·split at h
    ·cases h
    ·cases h;exact hp _
noncomputable def Gu (K:PySem.W.Frag) (t:xj):Sp:=fun vs H Q E=>∃(a:Addr) (start:Nat) (rows:List Str),vs=[.ref a,.int start]∧jx K H a (rows.map V.str)∧start≤rows.length∧bT rows∧
 (∀n:Nat,pR rows start=.error n→∀c o H',Qt t n H c o H'→E c o H')∧∀rw p H',pR rows start=.ok rw→qf H H'→bN t [] H' rw (.ref p)→Q (.ref p) H'
theorem Gq (a b c:Addr):qP "labels" (.ref c) (qP "bodies" (.ref b) (qP "heads" (.ref a) []))=ic a b c:=by
 simp only[qP,ic,if_neg (fun z=>b1 (Eq.symm z)),if_neg (fun z=>b2 (Eq.symm z)),if_neg (fun z=>b3 (Eq.symm z))]
theorem bQ {H:Hp} {p:Addr} {o:HO}:Off p H (upd H p o):=fun c o' hc e=>by rw[qB hc];exact e
section
variable {P:Program} {w:World} {K:PySem.W.Frag} {mg:Str→Option Value} {base:Heap} {t:xj}
theorem tj:qV ["self"] ["self"] (z7 xf):=⟨rfl,rfl,rfl,by decide +kernel,rfl,by decide +kernel,by decide +kernel⟩
set_option maxHeartbeats 400000 in
theorem sr (T:Txt K mg t):qW P w K mg base jW 3 t.wJ t.yT ["self"] (Gb t):=by
 have M_Part_init:qW P w K mg base jW 1 t.km t.k9 ["self","name","rooms","rows"] (Kc K t):=(bJ T).mono (by decide)
 refine T.m9.fn.ok tj (fun vs H Q E h=>(by obtain⟨_,_,rfl,_⟩:=h;rfl)) (fun cdv A outer s H vs Q E hr h=>?_)
 obtain⟨self,dx,rfl,se,k⟩:=h
 refine⟨_,(z8 (xS (pv 0) (qO (z6 (wg T.mX M_Part_init hr rfl T.uz T.ym.bd .nil qY (z6 qq (z6 (qO qz) (z6 (qO qz) qz)))) qz)) rfl)
   (z8 (xS (pv 0) (qO (z6 (qO qz) qz)) rfl)
   (qx (xS (pv 0) XH rfl)))),?_⟩
 refine⟨Nat.zero_le _,?_⟩
 intro a1 H1 s1 ha1 ea1
 refine⟨Nat.zero_le _,?_⟩
 intro a2 H2 s2 ha2 ea2
 intro p dxp hp hdxp hne
 have mk:∀c o,H2 c=some o→(upd (upd H2 dxp (HO.own p)) p (HO.ins t.jL dxp [])) c=some o:=gp hp hdxp
 refine⟨p,dxp,a1,a2,"whole",[],[],rfl,qr,mk _ _ (s2 _ _ ea1),mk _ _ ea2,fun H3 o3 h3=>⟨rfl,?_⟩⟩
 obtain⟨dx3,qa,qb,r1,r2,r3,z1,z2⟩:=h3
 have k3:qf H H3:=fun c o e=>o3 c o (qm (s2 _ _ (s1 _ _ e)) hp) (mk c o (s2 _ _ (s1 _ _ e)))
 refine⟨qp (by show 1≤1000;decide),?_⟩
 intro hd H4 s4 hhd ehd
 have se4:=s4 _ _ (k3 _ _ se)
 refine⟨_,rfl,self,_,dx,[],rfl,se4,T.jY,T.wy,(by show 0 < 1000;decide),?_⟩
 have o5:Off self H4 (upd H4 self (.ins t.qN dx (qP "heads" (.ref hd) []))):=bQ
 generalize hH5:upd H4 self (.ins t.qN dx (qP "heads" (.ref hd) []))=H5 at o5 ⊢
 have e5:H5 self=some (.ins t.qN dx (qP "heads" (.ref hd) [])):=by rw[←hH5];exact qr
 refine⟨Nat.zero_le _,?_⟩
 intro q H6 s6 hq eq
 refine⟨qp (by show 1≤1000;decide),?_⟩
 intro bd H7 s7 hbd ebd
 refine⟨_,rfl,self,_,dx,_,rfl,s7 _ _ (s6 _ _ e5),T.jY,T.ku,(by show 1 < 1000;decide),?_⟩
 have o8:Off self H7 (upd H7 self (.ins t.qN dx (qP "bodies" (.ref bd) (qP "heads" (.ref hd) [])))):=bQ
 generalize hH8:upd H7 self (.ins t.qN dx (qP "bodies" (.ref bd) (qP "heads" (.ref hd) [])))=H8 at o8 ⊢
 have e8:H8 self=some (.ins t.qN dx (qP "bodies" (.ref bd) (qP "heads" (.ref hd) []))):=by rw[←hH8];exact qr
 intro lb H9 s9 hlb elb
 refine⟨_,rfl,self,_,dx,_,rfl,s9 _ _ e8,T.jY,T.yW,?_,?_⟩
 ·have:=xB ("bodies" : Str) (.ref bd) (qP "heads" (.ref hd) [])
  have e:(qP ("heads" : Str) (.ref hd) []).length=1:=rfl
  omega
 have o10:Off self H9 (upd H9 self (.ins t.qN dx (qP "labels" (.ref lb) (qP "bodies" (.ref bd) (qP "heads" (.ref hd) []))))):=bQ
 rw[Gq] at o10 ⊢
 have hds:hd≠self:=Ne.symm (qm (k3 _ _ se) hhd)
 have qs:q≠self:=Ne.symm (qm e5 hq)
 have bs:bd≠self:=Ne.symm (qm (s6 _ _ e5) hbd)
 have lbs':lb≠self:=Ne.symm (qm e8 hlb)
 have ps:p≠self:=Ne.symm (qm (s2 _ _ (s1 _ _ se)) hp)
 have qas:qa≠self:=Ne.symm (qm (mk _ _ (s2 _ _ (s1 _ _ se))) z1)
 have up:∀c o,c≠self→H3 c=some o→H9 c=some o:=fun c o hc e=>s9 _ _ (o8 _ _ hc (s7 _ _ (s6 _ _ (o5 _ _ hc (s4 _ _ e)))))
 have h5d:H5 hd=some (.lst [.ref p]):=o5 _ _ hds ehd
 have h6d:=s6 _ _ h5d
 have h8d:H8 hd=some (.lst [.ref p]):=o8 _ _ hds (s7 _ _ h6d)
 have h8q:H8 q=some (.lst []):=o8 _ _ qs (s7 _ _ eq)
 have h8b:H8 bd=some (.lst [.ref q]):=o8 _ _ bs ebd
 have hqd:hd≠q:=qm h5d hq
 have hdb:hd≠bd:=qm h6d hbd
 have hdl:hd≠lb:=qm h8d hlb
 have bql:bd≠q:=Ne.symm (qm eq hbd)
 have bl:bd≠lb:=qm h8b hlb
 have lq:lb≠q:=Ne.symm (qm h8q hlb)
 have h5p:H5 p=some (.ins t.jL dx3 (Zx "whole" qa qb)):=o5 _ _ ps (s4 _ _ r1)
 have h5a:H5 qa=some (.lst (([]:List Str).map V.str)):=o5 _ _ qas (s4 _ _ r2)
 have nin:∀c o,c≠self→H3 c=some o→c∉[self,hd,bd,lb,q]:=fun c o hc e hm=>by
  have e5':H5 c=some o:=o5 _ _ hc (s4 _ _ e)
  (simp only[List.mem_cons,List.not_mem_nil,or_false] at hm)
  rcases hm with z | z | z | z | z
  ·exact hc z
  ·rw[z,hhd] at e;cases e
  ·have:=s6 _ _ e5';rw[z,hbd] at this;cases this
  ·have:=o8 _ _ hc (s7 _ _ (s6 _ _ e5'));rw[z,hlb] at this;cases this
  ·rw[z,hq] at e5';cases e5'
 have free:∀c,c∈[self,hd,bd,lb,q]→c=self∨H c=none:=fun c hm=>by
  (simp only[List.mem_cons,List.not_mem_nil,or_false] at hm)
  by_cases hc:c=self
  ·exact .inl hc
  ·refine .inr ?_
   cases z:H c with
   | none=>rfl
   | some o=>
    have:=nin c o hc (k3 _ _ z)
    exact absurd (by simpa using hm) this
 refine k _ [self,hd,bd,lb,q] (fun c o hc e=>o10 _ _ hc (up c o hc (k3 _ _ e))) free ⟨dx,hd,bd,lb,[p],[q],rfl,?_,qr,o10 _ _ hds (s9 _ _ h8d),o10 _ _ bs (s9 _ _ h8b),o10 _ _ lbs' elb,⟨⟨dx3,qa,qb,nin p _ ps r1,nin qa _ qas r2,o10 _ _ ps (up _ _ ps r1),o10 _ _ qas (up _ _ qas r2)⟩,⟨[],o10 _ _ qs (s9 _ _ h8q),by unfold xw;rfl,Nat.le_refl _⟩,True.intro⟩,Nat.le_refl _⟩
 simp only[List.nodup_cons,List.mem_cons,List.not_mem_nil,not_or,or_false,List.nodup_nil,not_false_eq_true,and_true]
 exact⟨⟨Ne.symm hds,Ne.symm bs,Ne.symm lbs',Ne.symm qs⟩,⟨hdb,hdl,hqd⟩,⟨bl,bql⟩,lq⟩
theorem yq:qV ["rows","start","body","number"] ["rows","start"] (z7 jQ):=⟨rfl,rfl,rfl,by decide +kernel,rfl,by decide +kernel,by decide +kernel⟩
set_option maxHeartbeats 400000 in
theorem cq (T:Txt K mg t):qW P w K mg base (lP P w) 8 t.va t.vt ["rows","start"] (Gu K t):=by
 have M_Body_init:qW P w K mg base jW 6 t.wJ t.yT ["self"] (Gb t):=(sr T).mono (by decide)
 have M_NoText_init:qW P w K mg base jW 6 t.xK t.x6 ["self","row"] (ZM K "row"):=(yG T).mono (by decide)
 refine T.vD.fn.GA yq (fun vs H Q E h=>(by obtain⟨_,_,_,rfl,_⟩:=h;rfl)) (fun cdv A outer s H vs Q E hr h=>?_)
 obtain⟨a,start,rows,rfl,hA,hst,hR,kE,kQ⟩:=h
 refine⟨_,(z8 (qi (i:=2) yq.nd rfl (Or.inl rfl) (Jq T.ar M_Body_init hr rfl T.QM T.m9.bd .nil qY))
   (z8 (fM PassesOwn.leaving rfl (Ze rfl T.yS (z6 (pv 1) (z6 (qG (jv (K:=K) rfl) rfl T.kf PySem.boot_len (z6 (pv 0) qz)) qz))) (xR (i:=3) yq.nd rfl (Or.inl rfl))
    (qx (qM (PW.pt (vU (ql jk (pv 3) (jm rfl (T.dF).choose_spec (v:=.int 90) ⟨_,rfl⟩) (qe _)) (vI (yB (j6 (gT hr (pv 2) (z6 (qJ (qu (K:=K) rfl) (pv 0) (pv 3) (fun _ _=>rfl)) qz)))))))
    (qx (gO pE rfl (gS T.vy M_NoText_init hr rfl T.wG T.xH.bd .nil qY (z6 (pv 3) qz)))) qo)))
   (z8 (qM (ql ll (yc hr (pv 2)) z9 (qe _))
    (qx (gO pE rfl (gS T.vy M_NoText_init hr rfl T.wG T.xH.bd .nil qY (z6 (qG (jv (K:=K) rfl) rfl T.kf PySem.boot_len (z6 (pv 0) qz)) qz)))) qo)
   (qx (qt (yc hr (pv 2))))))),?_⟩
 have M1:kN P w K mg base jW 7 t.qN "takes" (aF t):=.mk' T.fg (rj T) T.fX.bd (by decide)
 have M2:kN P w K mg base jW 7 t.qN "many_open" (tK t):=.mk' T.ky (vK T) T.kh.bd (by decide)
 have M3:kN P w K mg base jW 7 t.qN "closed" (uC t):=.mk' T.yX (pZ T) T.yL.bd (by decide)
 intro self dx hs hdx hne
 refine⟨self,dx,rfl,qr,fun H1 ms k1 fr1 hb1=>⟨rfl,?_⟩⟩
 have s1:qf H H1:=fun c o e=>k1 c o (qm e hs) (gp hs hdx c o e)
 have f1:∀c∈ms,H c=none:=fun c hc=>by
  rcases fr1 c hc with z | z
  ·rw[z];exact hs
  ·cases q:H c with
   | none=>rfl
   | some o=>rw[gp hs hdx c o q] at z;cases z
 walk_at "rd"
 refine⟨a,_,rfl,.inl (s1.seq hA),?_⟩
 have hlen:(rows.map V.str).length=rows.length:=List.length_map ..
 refine⟨_,_,rfl,⟨by omega,by have:=hR.lE;omega,by omega,by have:=hR.lE;omega⟩,?_⟩
 have hn:(((rows.map V.str).length:Nat) - (start:Int)).toNat=rows.length - start:=by rw[hlen];omega
 rw[hn]
 refine pO (lo:=(start:Int)) (n:=rows.length - start) (fun i σ H'=>∃(fr:List Fr) (ls:List Str) (ms:List Addr) (v3:Option V),σ=[some (.ref a),some (.int start),some (.ref self),v3]∧qf H H'∧(∀c∈ms,H c=none)∧wt t H' self fr ls (2 * i) ms∧fr≠[]∧fr.length≤7∧vh start (rows.drop start) [("whole",[],[])] []=vh (start + i) (rows.drop (start + i)) fr ls)
  ⟨_,_,ms,none,rfl,s1,f1,hb1,by simp,by simp,by rw[Nat.add_zero]⟩ ?_ ?_
 ·rintro i σ H2 hi ⟨fr,ls,ms2,v3,rfl,s2,f2,hb2,hne2,h72,hr2⟩
  have hi':start + i < rows.length:=by omega
  have hwd:wd rows (start + i)∈rows:=pU hi'
  have hd:rows.drop (start + i)=wd rows (start + i) :: rows.drop (start + i + 1):=by
   unfold wd
   rw[List.getD_eq_getElem?_getD,List.getElem?_eq_getElem hi']
   exact List.drop_eq_getElem_cons hi'
  rw[hd] at hr2
  have hfew:=hR.lE
  have eb:vh (start + i) (wd rows (start + i) :: rows.drop (start + i + 1)) fr ls=if start + i=90 then .error (start + i) else match vP fr ls (wd rows (start + i)) with
   | none=>.error (start + i)
   | some (fr',ls')=>vh (start + i + 1) (rows.drop (start + i + 1)) fr' ls':=by rw[vh]
  have bad:vh (start + i) (wd rows (start + i) :: rows.drop (start + i + 1)) fr ls=.error (start + i)→∀c o H',Qt t ((start:Int) + i) H c o H'→E c o H':=fun z c o H' q=>kE (start + i) (by unfold pR;rw[hr2,z];rfl) c o H' (by rw[Int.natCast_add];exact q)
  walk_at "rd"
  refine jy (fun h1=>?_) (fun h1=>?_)
  ·walk_at "rd"
   exact bV T fun c o H' z=>bad (by
    have:(start:Int) + i=90:=by simpa using h1
    rw[eb,if_pos (by omega)]) c o H' (z.back s2)
  have h90:¬start + i=90:=fun z=>h1 (by
   have:(start:Int) + i=90:=by omega
   simp [this])
  rw[if_neg h90] at eb
  obtain⟨dx2,hd2,bd2,lb2,hps2,bqs2,e2,h2⟩:=id hb2
  walk_at "rd"
  refine⟨self,_,dx2,_,rfl,h2.se,T.jY,YN,_,M1,?_⟩
  have hix:rz (rows.map V.str) ((start:Int) + i)=some (.str (wd rows (start + i))):=by
   have:=yl (xs:=rows) (i:=(start:Int) + i) (by omega) (by omega)
   rw[this]
   unfold wd
   rw[show ((start:Int) + i).toNat=start + i by omega]
  refine⟨_,rfl,_,rfl,a,_,_,_,rfl,rfl,s2.seq hA,hix,?_⟩
  refine⟨self,_,fr,ls,2 * i,ms2,rfl,hb2,by omega,hR.short _ hwd,hne2,h72,fun hN H3 fm3=>?_,fun fr' ls' H3 ms3 hS fm3 hm3 hb3=>?_⟩
  ·rw[hN] at eb
   walk_at "rd"
   exact bV T fun c o H' z=>bad eb c o H' (z.back (fm3.i7 s2 f2))
  ·rw[hS] at eb
   obtain⟨g1,g2⟩:=ZR hS hne2 h72
   walk_at "rd"
   exact⟨fr',ls',ms3,_,rfl,fm3.i7 s2 f2,fun c hc=>(hm3 c hc).elim (f2 c) (fun z=>s2.free z),hb3.up (by omega),g1,g2,by rw[hr2,eb];rfl⟩
 ·rintro σ H2 ⟨fr,ls,ms2,v3,rfl,s2,f2,hb2,hne2,h72,hr2⟩
  have hfew:=hR.lE
  rw[show start + (rows.length - start)=rows.length by omega,List.drop_length,vh] at hr2
  obtain⟨dx2,hd2,bd2,lb2,hps2,bqs2,e2,h2⟩:=id hb2
  walk_at "rd"
  refine⟨self,_,dx2,_,rfl,h2.se,T.jY,su,_,M2,?_⟩
  refine⟨self,fr,ls,_,ms2,rfl,hb2,?_⟩
  walk_at "rd"
  refine jy (fun h1=>?_) (fun h1=>?_)
  ·have h1':(0:Int) < ((fr.length:Nat):Int) - 1:=of_decide_eq_true h1
   walk_at "rd"
   refine⟨a,_,rfl,.inl (s2.seq hA),?_⟩
   rw[hlen]
   walk_at "rd"
   exact bV T fun c o H' z=>kE rows.length (by
    unfold pR
    rw[hr2]
    match fr,h1' with
    | _ :: _ :: _,_=>rfl
    | [_],h=>exact absurd h (by simp)) c o H' (z.back s2)
  have h1':¬(0:Int) < ((fr.length:Nat):Int) - 1:=fun z=>h1 (decide_eq_true z)
  obtain⟨n,rs,rws,rfl⟩:∃n rs rws,fr=[(n,rs,rws)]:=by
   match fr,hne2,h1' with
   | [(n,rs,rws)],_,_=>exact⟨n,rs,rws,rfl⟩
   | _ :: _ :: _,_,h=>exact absurd (by simp only[List.length_cons];omega) h
  walk_at "rd"
  refine⟨self,_,dx2,_,rfl,h2.se,T.jY,rA,_,M3,?_⟩
  refine⟨self,n,rs,rws,[],ls,_,ms2,rfl,hb2,by omega,fun p H3 ms3 fm3 sub3 hb3 hr3=>?_⟩
  exact kQ _ p H3 (by unfold pR;rw[hr2];rfl) (fm3.i7 s2 f2) (hr3.move (fun _ _ _ e=>e) (fun b hb=>by cases hb))
end
noncomputable def GS (a b c:Addr) (x:V):List (Str × V):=[("parties",.ref a),("acts",.ref b),("rooms",.ref c),("whole",x)]
theorem a1:¬(("parties" : Str) = "acts"):=by decide +kernel
theorem a2:¬(("parties" : Str) = "rooms"):=by decide +kernel
theorem a3:¬(("parties" : Str) = "whole"):=by decide +kernel
theorem a4:¬(("acts" : Str) = "rooms"):=by decide +kernel
theorem a5:¬(("acts" : Str) = "whole"):=by decide +kernel
theorem a6:¬(("rooms" : Str) = "whole"):=by decide +kernel
theorem Gk (a b c:Addr) (x:V):qP "whole" x (qP "rooms" (.ref c) (qP "acts" (.ref b) (qP "parties" (.ref a) [])))=GS a b c x:=by
 simp only[qP,GS,if_neg a1,if_neg a2,if_neg a3,if_neg a4,if_neg a5,if_neg a6]
noncomputable def Vr (K:PySem.W.Frag) (t:xj):Sp:=fun vs H Q _=>∃(p dx a b c:Addr) (x:V) (xs ys zs:List V),vs=[.ref p,.ref a,.ref b,.ref c,x]∧H p=some (.ins t.xg dx [])∧H a=some (.lst xs)∧H b=some (.lst ys)∧H c=some (.lst zs)∧
 ∀H' a' b' c',Off p H H'→H' p=some (.ins t.xg dx (GS a' b' c' x))→H' a'=some (.lst xs)→H' b'=some (.lst ys)→H' c'=some (.lst zs)→Q .non H'
noncomputable def VP (t:xj) (H:Hp) (p:Addr) (ps as:List Str) (qK:List (Str × Str)) (rw:Rw):Prop:=∃dx a b c x vs,H p=some (.ins t.xg dx (GS a b c x))∧H a=some (.lst (ps.map V.str))∧H b=some (.lst (as.map V.str))∧H c=some (.lst vs)∧Paired (vR H) vs qK∧bN t [] H rw x
noncomputable def xp (rows:List Str):Except Nat (List Str × List Str × List (Str × Str) × Rw):=
 match j0 rows 0 "parties" 4 [] with
 | none=>.error 0
 | some ps=>match j0 rows 1 "acts" 6 ps with
  | none=>.error 1
  | some as=>match jG (ps ++ as) [] (rows.drop 2) with
   | .error n=>.error n
   | .ok qK=>match pR rows (2 + qK.length) with
    | .error n=>.error n
    | .ok rw=>.ok (ps,as,qK,rw)
theorem fD {taken:List Str}:∀{rest:List Str} {found qK:List (Str × Str)},jG taken found rest=.ok qK→qK.length≤found.length + rest.length∧qK≠[]
 | [],found,qK,h=>by
  unfold jG at h
  split at h
  ·cases h
  ·rename_i z;cases h;exact⟨by simp,z⟩
 | x :: r,found,qK,h=>by
  unfold jG at h
  split at h
  ·split at h
   ·cases h
   ·rename_i z;cases h;exact⟨by omega,z⟩
  ·split at h
   ·cases h
   ·have:=fD h
    rw[List.length_append] at this
    simp only[List.length_cons,List.length_nil] at this ⊢
    exact⟨by omega,this.2⟩
theorem ug {rows:List Str} {i:Nat} {x:Str} {m:Int} {taken ns:List Str} (hR:bT rows) (h:j0 rows i x m taken=some ns):(ns.length:Int)≤m:=by
 unfold j0 at h
 split at h
 ·cases h
 ·dsimp only at h
  split at h
  ·cases h
  ·rename_i q
   cases h
   unfold jV at q ⊢
   split at q
   ·exact absurd (.inl rfl) q
   ·rename_i q2
    rw[if_neg q2]
    have q3:wa ((xJ (wd rows i)).drop 1) m=true:=by
     cases z:wa ((xJ (wd rows i)).drop 1) m with
     | true=>rfl
     | false=>exact absurd (.inr z) q2
    unfold wa at q3
    rw[Bool.and_eq_true,Bool.and_eq_true] at q3
    exact of_decide_eq_true q3.1.2
noncomputable def JY (t:xj):Sp:=fun vs H Q E=>∃(x:Str),vs=[.str x]∧x.length≤60000∧bT (Txt.split x "; ")∧
 (∀n:Nat,xp (Txt.split x "; ")=.error n→∀c o H',Qt t n H c o H'→E c o H')∧∀ps as qK rw p H',xp (Txt.split x "; ")=.ok (ps,as,qK,rw)→qf H H'→VP t H' p ps as qK rw→Q (.ref p) H'
section
variable {P:Program} {w:World} {K:PySem.W.Frag} {mg:Str→Option Value} {base:Heap} {t:xj}
theorem tf:qV ["self","parties","acts","rooms","whole"] ["self","parties","acts","rooms","whole"] (z7 xu):=⟨rfl,rfl,rfl,by decide +kernel,rfl,by decide +kernel,by decide +kernel⟩
set_option maxHeartbeats 400000 in
theorem si (T:Txt K mg t):qW P w K mg base jW 1 t.wX t.yO ["self","parties","acts","rooms","whole"] (Vr K t):=by
 refine T.dj.fn.ok tf (fun vs H Q E h=>(by obtain⟨_,_,_,_,_,_,_,_,_,rfl,_⟩:=h;rfl)) (fun cdv A outer s H vs Q E hr h=>?_)
 obtain⟨p,dx,a,b,c,x,xs,ys,zs,rfl,hp,hA,hB,hC,k⟩:=h
 refine⟨_,(z8 (xS (pv 0) (jI (pe (K:=K) rfl) rfl T.dk PyProof.Rows.boot_list (z6 (pv 1) qz)) rfl)
   (z8 (xS (pv 0) (jI (pe (K:=K) rfl) rfl T.dk PyProof.Rows.boot_list (z6 (pv 2) qz)) rfl)
   (z8 (xS (pv 0) (jI (pe (K:=K) rfl) rfl T.dk PyProof.Rows.boot_list (z6 (pv 3) qz)) rfl)
   (qx (xS (pv 0) (pv 4) rfl))))),?_⟩
 have na:a≠p:=dI hA hp (by intro z;cases z)
 have nb:b≠p:=dI hB hp (by intro z;cases z)
 have nc:c≠p:=dI hC hp (by intro z;cases z)
 refine⟨_,rfl,a,_,rfl,.inl (jx.of hA),?_⟩
 intro q1 H1 s1 hq1 e1
 refine⟨_,rfl,p,_,dx,_,rfl,s1 _ _ hp,T.mw,T.bF,(by show 0 < 1000;decide),?_⟩
 have o2:Off p H1 (upd H1 p (.ins t.xg dx (qP "parties" (.ref q1) []))):=bQ
 generalize hH2:upd H1 p (.ins t.xg dx (qP "parties" (.ref q1) []))=H2 at o2 ⊢
 have e2:H2 p=some (.ins t.xg dx (qP "parties" (.ref q1) [])):=by rw[←hH2];exact qr
 refine⟨_,rfl,b,_,rfl,.inl (jx.of (o2 _ _ nb (s1 _ _ hB))),?_⟩
 intro q3 H3 s3 hq3 e3
 refine⟨_,rfl,p,_,dx,_,rfl,s3 _ _ e2,T.mw,T.mB,(by show 1 < 1000;decide),?_⟩
 have o4:Off p H3 (upd H3 p (.ins t.xg dx (qP "acts" (.ref q3) (qP "parties" (.ref q1) [])))):=bQ
 generalize hH4:upd H3 p (.ins t.xg dx (qP "acts" (.ref q3) (qP "parties" (.ref q1) [])))=H4 at o4 ⊢
 have e4:H4 p=some (.ins t.xg dx (qP "acts" (.ref q3) (qP "parties" (.ref q1) []))):=by rw[←hH4];exact qr
 refine⟨_,rfl,c,_,rfl,.inl (jx.of (o4 _ _ nc (s3 _ _ (o2 _ _ nc (s1 _ _ hC))))),?_⟩
 intro q5 H5 s5 hq5 e5
 have l2:(qP ("acts" : Str) (.ref q3) (qP "parties" (.ref q1) [])).length≤2:=by
  have:=xB ("acts" : Str) (.ref q3) (qP "parties" (.ref q1) [])
  have e:(qP ("parties" : Str) (.ref q1) []).length=1:=rfl
  omega
 refine⟨_,rfl,p,_,dx,_,rfl,s5 _ _ e4,T.mw,T.fo,by omega,?_⟩
 have o6:Off p H5 (upd H5 p (.ins t.xg dx (qP "rooms" (.ref q5) (qP "acts" (.ref q3) (qP "parties" (.ref q1) []))))):=bQ
 generalize hH6:upd H5 p (.ins t.xg dx (qP "rooms" (.ref q5) (qP "acts" (.ref q3) (qP "parties" (.ref q1) []))))=H6 at o6 ⊢
 have e6:H6 p=some (.ins t.xg dx (qP "rooms" (.ref q5) (qP "acts" (.ref q3) (qP "parties" (.ref q1) [])))):=by rw[←hH6];exact qr
 refine⟨_,rfl,_,rfl,p,_,dx,_,rfl,e6,T.mw,T.fi,?_,?_⟩
 ·have:=xB ("rooms" : Str) (.ref q5) (qP "acts" (.ref q3) (qP "parties" (.ref q1) []))
  omega
 have o7:Off p H6 (upd H6 p (.ins t.xg dx (qP "whole" x (qP "rooms" (.ref q5) (qP "acts" (.ref q3) (qP "parties" (.ref q1) [])))))):=bQ
 rw[Gk] at o7 ⊢
 have n1:q1≠p:=Ne.symm (qm hp hq1)
 have n3:q3≠p:=Ne.symm (qm e2 hq3)
 have n5:q5≠p:=Ne.symm (qm e4 hq5)
 exact k _ q1 q3 q5 (fun d o hd e=>o7 _ _ hd (o6 _ _ hd (s5 _ _ (o4 _ _ hd (s3 _ _ (o2 _ _ hd (s1 _ _ e))))))) qr (o7 _ _ n1 (o6 _ _ n1 (s5 _ _ (o4 _ _ n1 (s3 _ _ (o2 _ _ n1 e1)))))) (o7 _ _ n3 (o6 _ _ n3 (s5 _ _ (o4 _ _ n3 e3)))) (o7 _ _ n5 (o6 _ _ n5 e5))
theorem yr:qV ["text","rows","parties","acts","rooms","whole"] ["text"] (z7 vH):=⟨rfl,rfl,rfl,by decide +kernel,rfl,by decide +kernel,by decide +kernel⟩
set_option maxHeartbeats 400000 in
theorem Zs (T:Txt K mg t):qW P w K mg base (lP P w) 9 t.mr t.mh ["text"] (JY t):=by
 have G_v_read_names:qW P w K mg base (lP P w) 8 t.vi t.vd ["rows","number","word","most","taken"] (Gf K t):=(d9 T).mono (by decide)
 have G_v_read_rooms:qW P w K mg base (lP P w) 8 t.ve t.vc ["rows","taken"] (Gm K t):=(cz T).mono (by decide)
 have G_v_read_whole:qW P w K mg base (lP P w) 8 t.va t.vt ["rows","start"] (Gu K t):=(cq T).mono (by decide)
 have M_Pact_init:qW P w K mg base jW 7 t.wX t.yO ["self","parties","acts","rooms","whole"] (Vr K t):=(si T).mono (by decide)
 refine T.uT.fn.GA yr (fun vs H Q E h=>(by obtain⟨_,rfl,_⟩:=h;rfl)) (fun cdv A outer s H vs Q E hr h=>?_)
 obtain⟨x,rfl,hx,hR,kE,kQ⟩:=h
 refine⟨_,(z8 (qi (i:=1) yr.nd rfl (Or.inl rfl) (vw PySem.F.plainAttrs_str PySem.F.slot_str_split PySem.F.type_str_split gL (pv 0) (z6 qq qz)))
   (z8 (qi (i:=2) yr.nd rfl (Or.inl rfl) (qZ G_v_read_names hr rfl T.xQ.mg T.xQ.fn.kp T.xQ.bd .nil (aQ fun _ _ _ z=>z) (z6 (pv 1) (z6 z9 (z6 qq (z6 (jm rfl (T.b8).choose_spec (v:=.int 4) ⟨_,rfl⟩) (z6 (qO qz) qz)))))))
   (z8 (qi (i:=3) yr.nd rfl (Or.inl rfl) (qZ G_v_read_names hr rfl T.xQ.mg T.xQ.fn.kp T.xQ.bd .nil (aQ fun _ _ _ z=>z) (z6 (pv 1) (z6 z9 (z6 qq (z6 (jm rfl (T.dB).choose_spec (v:=.int 6) ⟨_,rfl⟩) (z6 (pv 2) qz)))))))
   (z8 (qi (i:=4) yr.nd rfl (Or.inl rfl) (qZ G_v_read_rooms hr rfl T.vM.mg T.vM.fn.kp T.vM.bd .nil (aQ fun _ _ _ z=>z) (z6 (pv 1) (z6 (qk xU (pv 2) (pv 3)) qz))))
   (z8 (qi (i:=5) yr.nd rfl (Or.inl rfl) (qZ G_v_read_whole hr rfl T.vD.mg T.vD.fn.kp T.vD.bd .nil (aQ fun _ _ _ z=>z) (z6 (pv 1) (z6 (qk xk (jm rfl (T.vQ).choose_spec (v:=.int 2) ⟨_,rfl⟩) (qG (jv (K:=K) rfl) rfl T.kf PySem.boot_len (z6 (pv 4) qz))) qz))))
   (qx (qt (wg T.ao M_Pact_init hr rfl T.QC T.dj.bd .nil qY (z6 (pv 2) (z6 (pv 3) (z6 (pv 4) (z6 (pv 5) qz)))))))))))),?_⟩
 walk_at "rd"
 refine⟨by rw[sizeLine_eq];omega,?_⟩
 intro lr H1 s1 hlr e1
 have hpos:1≤(Txt.split x (Str.ofString "; ")).length:=PyProof.Rows.split_pos x "; "
 have e1':H1 lr=some (.lst ((Txt.split x "; ").map V.str)):=e1
 clear e1
 generalize Txt.split x (Str.ofString "; ")=rows at *
 walk_at "rd"
 intro l0 H2 s2 hl0 e2
 have sA:qf H H2:=s1.trans s2
 refine⟨lr,l0,0,_,_,rows,[],rfl,jx.of (s2 _ _ e1'),e2,Nat.zero_le _,hR,Nat.zero_le _,by decide,fun hN c o H' z=>?_,fun ps lp H3 hS s3 hlp e3=>?_⟩
 ·exact kE 0 (by unfold xp;rw[hN]) c o H' (z.back sA)
 have hps:=ug hR hS
 walk_at "rd"
 refine⟨lr,lp,1,_,_,rows,ps,rfl,jx.of (s3 _ _ (s2 _ _ e1')),e3,hpos,hR,by omega,by decide,fun hN c o H' z=>?_,fun as la H4 hS4 s4 hla e4=>?_⟩
 ·exact kE 1 (by unfold xp;rw[hS];dsimp only;rw[hN]) c o H' (z.back (sA.trans s3))
 have has:=ug hR hS4
 walk_at "rd"
 refine⟨lp,la,_,_,rfl,rfl,s4 _ _ e3,e4,qp (by simp only[List.length_map];omega),?_⟩
 intro lt H5 s5 hlt e5
 have e5':H5 lt=some (.lst ((ps ++ as).map V.str)):=by rw[e5,List.map_append]
 have sB:qf H H5:=((sA.trans s3).trans s4).trans s5
 refine⟨lr,lt,rows,ps ++ as,rfl,jx.of (s5 _ _ (s4 _ _ (s3 _ _ (s2 _ _ e1')))),e5',hR,by rw[List.length_append];omega,fun n hN c o H' z=>?_,fun qK l6 H6 vs hS6 s6 hl6 e6 hP6=>?_⟩
 ·exact kE n (by unfold xp;rw[hS];dsimp only;rw[hS4];dsimp only;rw[hN]) c o H' (z.back sB)
 have hrl:=(fD hS6).1
 have hr0:=List.length_pos_iff.mpr (fD hS6).2
 rw[List.length_drop,List.length_nil,Nat.zero_add] at hrl
 have hvl:vs.length=qK.length:=Paired.length hP6
 walk_at "rd"
 refine⟨l6,_,rfl,.inl (jx.of e6),?_⟩
 refine⟨_,_,rfl,rfl,?_⟩
 have ecast:(2:Int) + ((vs.length:Nat):Int)=((2 + qK.length:Nat):Int):=by rw[hvl];omega
 have sC:qf H H6:=sB.trans s6
 refine⟨lr,2 + qK.length,rows,by rw[←ecast];rfl,jx.of (s6 _ _ (s5 _ _ (s4 _ _ (s3 _ _ (s2 _ _ e1'))))),by omega,hR,fun n hN c o H' z=>?_,fun rw' p H7 hS7 s7 hr7=>?_⟩
 ·exact kE n (by unfold xp;rw[hS];dsimp only;rw[hS4];dsimp only;rw[hS6];dsimp only;rw[hN]) c o H' (z.back sC)
 walk_at "rd"
 intro q dxq hq hdq hne
 have mk:∀c o,H7 c=some o→(upd (upd H7 dxq (HO.own q)) q (HO.ins t.xg dxq [])) c=some o:=gp hq hdq
 refine⟨q,dxq,lp,la,l6,.ref p,_,_,_,rfl,qr,mk _ _ (s7 _ _ (s6 _ _ (s5 _ _ (s4 _ _ e3)))),mk _ _ (s7 _ _ (s6 _ _ (s5 _ _ e4))),mk _ _ (s7 _ _ e6),fun H8 a' b' c' o8 g1 g2 g3 g4=>⟨rfl,?_⟩⟩
 have s8:qf H7 H8:=fun c o e=>o8 c o (qm e hq) (mk c o e)
 exact kQ ps as qK rw' q H8 (by unfold xp;rw[hS];dsimp only;rw[hS4];dsimp only;rw[hS6];dsimp only;rw[hS7]) ((sC.trans s7).trans s8) ⟨_,a',b',c',_,_,g1,g2,g3,g4,Paired.imp' (fun _ _ z=>z.same (s7.trans s8)) hP6,hr7.move (fun _ _ _ e=>s8 _ _ e) (fun b hb=>by cases hb)⟩
end
noncomputable def lits:List Str:=["any","must","may","not","by","else","to","let","be","part","in","calm","sore","end"]
noncomputable def Rt (k:Nat) (x:Str):Prop:=(k=0∧qw x=true)∨(k=1∧qw x=false∧0 < vC x∧x∉lits)∨(k=2∧qw x=false∧vC x=0∧x∉lits)∨(3≤k∧lits[k - 3]?=some x)
noncomputable def nK (k p:Nat):Bool:=if p=100 then k == 0 else if p=101 then k == 0 || k == 3 else if p=102 then k == 1 else k == p
noncomputable def jr (ks ps:List Nat):Bool:=decide (ks.length=ps.length) && (ks.zip ps).all fun q=>nK q.1 q.2
noncomputable def iM (p:Nat):Str:=if p=100 then "NAME" else if p=101 then "WHO" else if p=102 then "NUMBER" else lits.getD (p - 3) ""
noncomputable def fZ:List Nat:=[100,100,4,100,7,102,8,100]
noncomputable def gJ:List Nat:=[100,101,5,100]
noncomputable def sP:List Nat:=[100,101,5,6,100,8,100]
noncomputable def pW:List Nat:=[100,101,7,100,9,100]
noncomputable def Zi:List Nat:=[10,100,11,100]
noncomputable def ua:List Nat:=[12,100]
noncomputable def Q1 (p:Nat):Bool:=p == 100 || p == 101 || p == 102 || (decide (3≤p) && decide (p≤16))
theorem jS:eA=fZ.map iM∧lI=gJ.map iM∧Xd=sP.map iM∧ip=pW.map iM∧Qi=Zi.map iM∧cC=ua.map iM:=by decide +kernel
theorem cQ:∀x∈lits,qw x=false∧vC x=0:=by decide +kernel
theorem XQ:lits.Nodup:=by decide +kernel
theorem sj:∀c∈qT.cps.toList,¬(48≤c∧c≤57):=by decide +kernel
theorem ax (z:Str) (c:Nat):has z c=decide (c∈z.cps.toList):=StrLaws.found_one z c
theorem m8 {x z:Str} {m:Int} (h:bR x z m=true):1≤x.length∧(x.length:Int)≤m∧∀c∈x.cps.toList,c∈z.cps.toList:=by
 unfold bR at h
 rw[Bool.and_eq_true,Bool.and_eq_true] at h
 obtain⟨⟨h1,h2⟩,h3⟩:=h
 refine⟨of_decide_eq_true h1,of_decide_eq_true h2,fun c hc=>?_⟩
 have:=List.all_eq_true.mp h3 c hc
 rw[ax] at this
 exact of_decide_eq_true this
theorem name_num {x:Str} (h:qw x=true):vC x=0:=by
 unfold qw at h
 rw[Bool.and_eq_true] at h
 obtain⟨h1,_,h3⟩:=m8 h.1
 unfold vC
 refine if_neg fun q=>?_
 obtain⟨_,_,d3⟩:=d0 q.1
 obtain⟨c,e,_⟩:=nX h1
 have hc:c∈x.cps.toList:=List.mem_of_mem_head? e
 exact sj c (h3 c hc) (d3 c hc)
theorem QN {x:Str} (h:qw x=true):x∉lits:=fun q=>by rw[(cQ x q).1] at h;cases h
theorem Wx {k j:Nat} {x:Str} (hk:lits[k]?=some x) (hj:lits[j]?=some x):k=j:=mD XQ hk hj
theorem Rt.num {k:Nat} {x:Str} (h:Rt k x):decide (vC x > 0)=(k == 1):=by
 rcases h with ⟨rfl,h⟩ | ⟨rfl,h1,h2,h3⟩ | ⟨rfl,h1,h2,h3⟩ | ⟨h1,h2⟩
 ·rw[name_num h];rfl
 ·rw[decide_eq_true h2];rfl
 ·rw[h2];rfl
 ·have hm:=List.mem_of_getElem? h2
  rw[(cQ x hm).2]
  have:(k == 1)=false:=beq_eq_false_iff_ne.mpr (by omega)
  rw[this];rfl
theorem Rt.name {k:Nat} {x:Str} (h:Rt k x):qw x=(k == 0):=by
 rcases h with ⟨rfl,h⟩ | ⟨rfl,h1,h2,h3⟩ | ⟨rfl,h1,h2,h3⟩ | ⟨h1,h2⟩
 ·rw[h];rfl
 ·rw[h1];rfl
 ·rw[h1];rfl
 ·have hm:=List.mem_of_getElem? h2
  rw[(cQ x hm).1]
  exact(beq_eq_false_iff_ne.mpr (by omega)).symm
theorem Rt.lit {k j:Nat} {x y:Str} (h:Rt k x) (hj:lits[j]?=some y):decide (x=y)=(k == j + 3):=by
 have nm:x∉lits→k < 3→decide (x=y)=(k == j + 3):=fun h h3=>by
  have:¬x=y:=fun q=>h (by rw[q];exact List.mem_of_getElem? hj)
  rw[decide_eq_false this]
  exact(beq_eq_false_iff_ne.mpr (by omega)).symm
 rcases h with ⟨rfl,h⟩ | ⟨rfl,h1,h2,h3⟩ | ⟨rfl,h1,h2,h3⟩ | ⟨h1,h2⟩
 ·exact nm (QN h) (by omega)
 ·exact nm h3 (by omega)
 ·exact nm h3 (by omega)
 ·by_cases q:k=j + 3
  ·subst q
   rw[Nat.add_sub_cancel] at h2
   rw[hj] at h2
   cases h2
   simp
  ·have:¬x=y:=fun e=>q (by subst e;have:=Wx h2 hj;omega)
   rw[decide_eq_false this]
   exact(beq_eq_false_iff_ne.mpr q).symm
theorem WV:∀p < 17,3≤p→iM p≠"NAME"∧iM p≠"WHO"∧iM p≠"NUMBER"∧lits[p - 3]?=some (iM p):=by decide +kernel
theorem iu (x:Str):wV x "NAME" = qw x:=if_pos rfl
theorem i9:("WHO" : Str)≠"NAME"∧("NUMBER" : Str)≠"NAME"∧("NUMBER" : Str)≠"WHO":=by decide +kernel
theorem Rt.fits {k p:Nat} {x:Str} (h:Rt k x) (hp:Q1 p=true):wV x (iM p)=nK k p:=by
 unfold nK
 by_cases h1:p=100
 ·subst h1
  rw[if_pos rfl]
  show wV x "NAME" = _
  rw[iu,h.name]
 rw[if_neg h1]
 by_cases h2:p=101
 ·subst h2
  rw[if_pos rfl]
  show wV x "WHO" = _
  unfold wV
  rw[if_neg i9.1,if_pos rfl,h.name,h.lit (j:=0) rfl]
 rw[if_neg h2]
 by_cases h3:p=102
 ·subst h3
  rw[if_pos rfl]
  show wV x "NUMBER" = _
  unfold wV
  rw[if_neg i9.2.1,if_neg i9.2.2,if_pos rfl,h.num]
 rw[if_neg h3]
 have hp':3≤p∧p≤16:=by
  unfold Q1 at hp
  simp [h1,h2,h3] at hp
  exact hp
 obtain⟨a,b,c,d⟩:=WV p (by omega) hp'.1
 unfold wV
 rw[if_neg a,if_neg b,if_neg c,h.lit d,Nat.sub_add_cancel hp'.1]
noncomputable abbrev yC:List Nat→List Str→Prop:=Paired Rt
theorem yC.fits:∀{ks:List Nat} {ws:List Str},yC ks ws→∀{ps:List Nat},ps.all Q1=true→kx ws (ps.map iM)=jr ks ps:=by
 intro ks ws r ps hp
 unfold kx jr
 rw[List.length_map,←r.length]
 congr 1
 induction r generalizing ps with
 | nil=>rfl
 | cons h t ih=>
  cases ps with
  | nil=>rfl
  | cons p ps=>
   rw[List.all_cons,Bool.and_eq_true] at hp
   rw[List.map_cons,List.zip_cons_cons,List.zip_cons_cons,List.all_cons,List.all_cons,ih hp.2]
   rw[show wV _ (iM p)=nK _ p from h.fits hp.1]
noncomputable def fQ (ks:List Nat):Bool:=jr (ks.take 2) ua && (ks.length == 2 || (ks.getD 2 99 == 13 && (decide (1≤(ks.drop 3).length) && decide ((ks.drop 3).length≤12) && (ks.drop 3).all (· == 0))))
noncomputable def uK (ks:List Nat):Bool:=ks.length == 2 && (decide (14≤ks.getD 0 99) && decide (ks.getD 0 99≤16)) && ks.getD 1 99 == 0
noncomputable def uf (ks:List Nat):Bool:=!jr ks fZ && !jr ks gJ && !jr ks sP && !jr ks pW && !jr ks Zi && !fQ ks && !uK ks
noncomputable def iy (ws:List Str):Prop:=ji ws=none∧sf ws=none∧vk ws=none∧vG ws=none
theorem yC.take:∀{ks:List Nat} {ws:List Str} (n:Nat),yC ks ws→yC (ks.take n) (ws.take n)
 | _,_,0,_=>.nil
 | _,_,_ + 1,.nil=>.nil
 | _,_,n + 1,.cons r t=>.cons r (yC.take n t)
theorem yC.drop:∀{ks:List Nat} {ws:List Str} (n:Nat),yC ks ws→yC (ks.drop n) (ws.drop n)
 | _,_,0,r=>r
 | _,_,_ + 1,.nil=>.nil
 | _,_,n + 1,.cons _ t=>yC.drop n t
theorem yC.append:∀{ks js:List Nat} {ws zs:List Str},yC ks ws→yC js zs→yC (ks ++ js) (ws ++ zs)
 | _,_,_,_,.nil,s=>s
 | _,_,_,_,.cons r t,s=>.cons r (yC.append t s)
theorem yC.pick:∀{ks:List Nat} {ws:List Str} {i:Nat},yC ks ws→i < ks.length→Rt (ks.getD i 99) (My.wd ws i)
 | _,_,_,.nil,h=>by simp at h
 | _,_,0,.cons r _,_=>r
 | _,_,i + 1,.cons _ t,h=>yC.pick (i:=i) t (by simpa using h)
theorem yC.names:∀{ks:List Nat} {ws:List Str},yC ks ws→ws.all qw=ks.all (· == 0)
 | _,_,.nil=>rfl
 | _,_,.cons r t=>by rw[List.all_cons,List.all_cons,yC.names t,r.name]
theorem oo:fZ.all Q1=true∧gJ.all Q1=true∧sP.all Q1=true∧pW.all Q1=true∧Zi.all Q1=true∧ua.all Q1=true:=by decide
theorem kr {ks ps:List Nat} {ws fs:List Str} (r:yC ks ws) (hp:ps.all Q1=true) (e:fs=ps.map iM) (h:jr ks ps=false):¬kx ws fs=true:=by
 rw[e,r.fits hp,h]
 simp
theorem p9 {ks ps:List Nat} {ws fs:List Str} (r:yC ks ws) (hp:ps.all Q1=true) (e:fs=ps.map iM) (h:jr ks ps=true):kx ws fs=true:=by
 rw[e,r.fits hp,h]
theorem Zj {ks ps:List Nat} (h:jr ks ps=true):ks.length=ps.length:=by
 unfold jr at h
 rw[Bool.and_eq_true] at h
 exact of_decide_eq_true h.1
theorem yC.part {ks:List Nat} {ws:List Str} (r:yC ks ws) (h:fQ ks=false):vk ws=none:=by
 have hl:=r.length
 unfold vk
 by_cases hf:kx (ws.take 2) cC=true
 ·rw[if_pos hf]
  have hT:jr (ks.take 2) ua=true:=by
   have:=(r.take 2).fits oo.2.2.2.2.2
   rw[←jS.2.2.2.2.2,hf] at this
   exact this.symm
  have h2:2≤ks.length:=by have:(ks.take 2).length=2:=Zj hT;rw[List.length_take] at this;omega
  unfold fQ at h
  rw[hT,Bool.true_and,Bool.or_eq_false_iff] at h
  have hn:¬ws.length=2:=fun q=>by
   have:ks.length=2:=by omega
   rw[this] at h
   simp at h
  rw[if_neg hn]
  refine if_pos ?_
  by_cases hin:wd ws 2 = "in"
  ·refine .inr ?_
   have r2:=yC.pick (i:=2) r (by omega)
   have e13:(ks.getD 2 99 == 13)=true:=by rw[←r2.lit (j:=10) (y:="in") rfl];exact decide_eq_true hin
   have h3:=h.2
   rw[e13,Bool.true_and] at h3
   unfold wa
   rw[(r.drop 3).names,←(r.drop 3).length]
   have hc:decide (((ks.drop 3).length:Int)≤12)=decide ((ks.drop 3).length≤12):=by
    by_cases q:(ks.drop 3).length≤12
    ·rw[decide_eq_true q,decide_eq_true (by omega)]
    ·rw[decide_eq_false q,decide_eq_false (by omega)]
   rw[hc]
   exact h3
  ·exact .inl hin
 ·exact if_neg hf
theorem Zc:∀x∈jT,lits[11]?=some x∨lits[12]?=some x∨lits[13]?=some x:=by decide +kernel
theorem yC.room {ks:List Nat} {ws:List Str} (r:yC ks ws) (h:uK ks=false):vG ws=none:=by
 have hl:=r.length
 unfold vG
 refine if_neg fun q=>?_
 obtain⟨q1,q2,q3⟩:=q
 have r0:=yC.pick (i:=0) r (by omega)
 have r1:=yC.pick (i:=1) r (by omega)
 have hm:wd ws 0∈jT:=by
  rw[ma] at q2
  exact of_decide_eq_true q2
 rw[r1.name] at q3
 have hk:14≤ks.getD 0 99∧ks.getD 0 99≤16:=by
  rcases Zc _ hm with e | e | e
  ·have:=(r0.lit e).symm.trans (decide_eq_true rfl)
   have:=beq_iff_eq.mp this
   omega
  ·have:=(r0.lit e).symm.trans (decide_eq_true rfl)
   have:=beq_iff_eq.mp this
   omega
  ·have:=(r0.lit e).symm.trans (decide_eq_true rfl)
   have:=beq_iff_eq.mp this
   omega
 unfold uK at h
 rw[decide_eq_true hk.1,decide_eq_true hk.2,q3,show (ks.length == 2)=true from beq_iff_eq.mpr (by omega)] at h
 cases h
theorem yC.empty {ks:List Nat} {ws:List Str} (r:yC ks ws) (h:uf ks=true):iy ws:=by
 unfold uf at h
 (simp only[Bool.and_eq_true,Bool.not_eq_true'] at h)
 obtain⟨⟨⟨⟨⟨⟨h1,h2⟩,h3⟩,h4⟩,h5⟩,h6⟩,h7⟩:=h
 obtain⟨f1,f2,f3,f4,f5,f6⟩:=jS
 obtain⟨o1,o2,o3,o4,o5,o6⟩:=oo
 refine⟨?_,?_,r.part h6,r.room h7⟩
 ·unfold ji
  rw[if_neg (kr r o1 f1 h1),if_neg (kr r o2 f2 h2),if_neg (kr r o3 f3 h3),if_neg (kr r o4 f4 h4)]
 ·unfold sf
  rw[if_neg (kr r o5 f5 h5)]
section
variable {P:Program} {w:World} {K:PySem.W.Frag} {mg:Str→Option Value} {base:Heap} {t:xj}
end
theorem cG {c:Nat}:∀{xs ys X Y:List Nat},c∉xs→c∉ys→xs ++ c :: X=ys ++ c :: Y→xs=ys∧X=Y
 | [],[],_,_,_,_,h=>by simpa using h
 | [],y :: ys,_,_,_,hy,h=>by
  simp only[List.nil_append,List.cons_append,List.cons.injEq] at h
  exact absurd (by rw[h.1];simp) hy
 | x :: xs,[],_,_,hx,_,h=>by
  simp only[List.nil_append,List.cons_append,List.cons.injEq] at h
  exact absurd (by rw[←h.1];simp) hx
 | x :: xs,y :: ys,X,Y,hx,hy,h=>by
  simp only[List.cons_append,List.cons.injEq] at h
  obtain⟨e1,e2⟩:=cG (c:=c) (fun q=>hx (List.mem_cons_of_mem _ q)) (fun q=>hy (List.mem_cons_of_mem _ q)) h.2
  exact⟨by rw[h.1,e1],e2⟩
theorem aO:(" " : Str).cps.toList=[32]:=by decide +kernel
theorem Qw:(" " : Str)=⟨#[32]⟩:=by decide +kernel
theorem qv (x y:Str) (r:List Str):(Str.join " " (x :: y :: r)).cps.toList=x.cps.toList ++ 32 :: (Str.join " " (y :: r)).cps.toList:=by
 rw[cT,cps_append,cps_append,aO]
 simp
theorem nG:∀{as bs:List Str},as≠[]→bs≠[]→(∀x∈as,32∉x.cps.toList)→(∀x∈bs,32∉x.cps.toList)→Str.join " " as=Str.join " " bs→as=bs
 | [],_,h,_,_,_,_=>absurd rfl h
 | _ :: _,[],_,h,_,_,_=>absurd rfl h
 | [a],[b],_,_,_,_,e=>by rw[show a=b from e]
 | [a],b :: b' :: r,_,_,ha,_,e=>by
  have e':=congrArg (fun z=>z.cps.toList) e
  simp only[qv,L2.join_one] at e'
  exact absurd (by rw[e'];simp) (ha a (by simp))
 | a :: a' :: r,[b],_,_,_,hb,e=>by
  have e':=congrArg (fun z=>z.cps.toList) e
  simp only[qv,L2.join_one] at e'
  exact absurd (by rw[←e'];simp) (hb b (by simp))
 | a :: a' :: r,b :: b' :: r',_,_,ha,hb,e=>by
  have e':=congrArg (fun z=>z.cps.toList) e
  simp only[qv] at e'
  obtain⟨e1,e2⟩:=cG (ha a (by simp)) (hb b (by simp)) e'
  have:=nG (as:=a' :: r) (bs:=b' :: r') (by simp) (by simp) (fun x hx=>ha x (List.mem_cons_of_mem _ hx)) (fun x hx=>hb x (List.mem_cons_of_mem _ hx)) (qX e2)
  rw[qX e1,this]
theorem mE {ws:List Str} (h:ws≠[]) (hb:∀x∈ws,32∉x.cps.toList):xJ (Txt.join " " ws)=ws:=by
 unfold xJ
 rw[join_eq]
 refine(nG h ?_ hb ?_ ?_).symm
 ·intro q
  have:=PyProof.Rows.split_pos (Str.join " " ws) " "
  rw[q] at this
  simp at this
 ·intro x hx
  rw[Qw] at hx
  exact StrLaws.split_free _ 32 x hx
 ·exact(StrLaws.join_split _ _).symm
structure Wk (x:Str):Prop where
 as:asc x
 nb:32∉x.cps.toList
noncomputable def oN (ws:List Str):Nat:=(ws.map (·.length)).sum + ws.length
theorem Ki (as bs:List Str):oN (as ++ bs)=oN as + oN bs:=by
 unfold oN
 rw[List.map_append,List.sum_append,List.length_append]
 omega
theorem Ke (x:Str):oN [x]=x.length + 1:=by simp [oN]
theorem dQ {n:Nat}:∀{ws:List Str},(∀x∈ws,x.length≤n)→oN ws≤(n + 1) * ws.length
 | [],_=>by simp [oN]
 | x :: r,h=>by
  have h1:=h x (by simp)
  have h2:=dQ (n:=n) (ws:=r) fun y hy=>h y (List.mem_cons_of_mem _ hy)
  have e:oN (x :: r)=oN [x] + oN r:=Ki [x] r
  rw[e,Ke,List.length_cons,Nat.mul_add]
  omega
theorem cY (ws:List Str):(Txt.join " " ws).length≤oN ws:=by
 have:=cS " " ws
 have e:(" " : Str).length=1:=by decide +kernel
 rw[e] at this
 unfold oN
 omega
theorem sO (ws:List Str):(ws.map (·.length)).sum + ws.length * (" " : Str).length=oN ws:=by
 have e:(" " : Str).length=1:=by decide +kernel
 rw[e];unfold oN;omega
section
variable {P:Program} {w:World} {K:PySem.W.Frag} {mg:Str→Option Value} {base:Heap} {t:xj}
end
noncomputable def wH (c k:Int):Int:=(c % 2147483629 + 104729 * (k + 1)) % 2147483629 * ((c % 2147483629 + 104729 * (k + 1)) % 2147483629) % 2147483647 * 48271 % 2147483647 / 7
theorem fH (c k:Int):0≤wH c k∧wH c k < 306783379:=by
 unfold wH
 generalize (c % 2147483629 + 104729 * (k + 1)) % 2147483629 * ((c % 2147483629 + 104729 * (k + 1)) % 2147483629) % 2147483647 * 48271=z
 omega
noncomputable def wZ (ns:List Int) (k:Int):Int:=if k < (ns.length:Int) then ns.getD k.toNat 0 % 1000000000000000000000007 else 0
theorem Xw (ns:List Int) (k:Int):0≤wZ ns k∧wZ ns k < 1000000000000000000000007:=by
 unfold wZ
 split
 ·exact⟨Int.emod_nonneg _ (by decide),Int.emod_lt_of_pos _ (by decide)⟩
 ·decide
noncomputable def iN (K:PySem.W.Frag):Sp:=fun vs H Q _=>∃(a:Addr) (k:Int) (ns:List Int),vs=[.ref a,.int k]∧jx K H a (ns.map V.int)∧0≤k∧Q (.int (wZ ns k)) H
noncomputable def lX:Sp:=fun vs H Q _=>∃(c k:Int),vs=[.int c,.int k]∧0≤k∧k≤1000∧Q (.int (wH c k)) H
noncomputable abbrev sS:Str:="fgjkqvxz"
noncomputable def Z0:List Nat:=[102,103,106,107,113,118,120,122]
theorem aV:sS.length=8∧sS.cps.toList=Z0:=by decide +kernel
theorem cn:qT.length=26∧qT.cps.toList.length=26:=by decide +kernel
theorem iE:∀c∈Z0,c∈qT.cps.toList:=by decide +kernel
theorem Zh:∀x∈gh,∀c∈x.cps.toList,c∉Z0:=by decide +kernel
noncomputable def iA (j:Int):Nat:=Z0.getD j.toNat 0
theorem XW {x:Str} (h1:1≤x.length) (h2:x.length≤8) (h3:∀c∈x.cps.toList,c∈qT.cps.toList) (h4:∃c∈x.cps.toList,c∈Z0):qw x=true:=by
 unfold qw bR
 rw[decide_eq_true h1,decide_eq_true (show (x.length:Int)≤8 by omega)]
 have e:x.cps.toList.all (has qT)=true:=List.all_eq_true.mpr fun c hc=>by rw[ax];exact decide_eq_true (h3 c hc)
 rw[e,ma]
 obtain⟨c,hc,hs⟩:=h4
 rw[decide_eq_false (fun q=>Zh x q c hc hs)]
 rfl
theorem kJ {x:Str} (h:qw x=true):1≤x.length∧x.length≤8∧Wk x:=by
 unfold qw at h
 rw[Bool.and_eq_true] at h
 obtain⟨h1,h2,h3⟩:=m8 h.1
 refine⟨h1,by omega,fun c hc=>ay.2.2 c (h3 c hc),fun hc=>?_⟩
 have:¬32∈qT.cps.toList:=by decide +kernel
 exact this (h3 32 hc)
noncomputable def ye:List Str:=["part","done","let","calm","sore","end","acts","any","in","else","may","not"]
theorem nY:∀x∈ye,1≤x.length∧x.length≤4∧∀c∈x.cps.toList,c∈qT.cps.toList:=by decide +kernel
noncomputable def u4 (c:Int):Int:=2 + c / 81 % (7 - (if c % 3=1 then 1 else 0))
noncomputable def ZI (c:Int):Int:=c / 500 % u4 c
noncomputable def Fv (c:Int):Nat:=(ye.getD (c / 12 % 12).toNat "").length
theorem oS (c:Int):2≤u4 c∧u4 c≤8∧(c % 3=1→u4 c≤7):=by
 unfold u4
 by_cases h:c % 3=1
 ·rw[if_pos h]
  omega
 ·rw[if_neg h]
  omega
noncomputable def J8 (c:Int):Int:=(ZI c + 1 + c / 3600 % (u4 c - 1)) % u4 c
theorem eX (c:Int):0≤ZI c∧ZI c < u4 c:=by
 have h:=(oS c).1
 exact⟨Int.emod_nonneg _ (by omega),Int.emod_lt_of_pos _ (by omega)⟩
theorem Q6 (c:Int):0≤J8 c∧J8 c < u4 c∧J8 c≠ZI c:=by
 have h:=(oS c).1
 have ha:=eX c
 have r0:0≤c / 3600 % (u4 c - 1):=Int.emod_nonneg _ (by omega)
 have r1:c / 3600 % (u4 c - 1) < u4 c - 1:=Int.emod_lt_of_pos _ (by omega)
 refine⟨Int.emod_nonneg _ (by omega),Int.emod_lt_of_pos _ (by omega),?_⟩
 unfold J8
 generalize c / 3600 % (u4 c - 1)=r at *
 generalize u4 c=z at *
 generalize ZI c=a at *
 by_cases q:a + 1 + r < z
 ·rw[Int.emod_eq_of_lt (by omega) q]
  omega
 ·have e:a + 1 + r=(a + 1 + r - z) + z:=by omega
  rw[e,Int.add_emod_right,Int.emod_eq_of_lt (by omega) (by omega)]
  omega
theorem ZF (b:Bool):(0:Int) < 7 - (if b=true then 1 else 0):=by cases b<;>decide
theorem Gn (c:Int):(2 + c / 81 % (7 - (if decide (V.int (c % 3)=V.int 1)=true then (1:Int) else 0)))=u4 c:=by
 unfold u4
 by_cases q:c % 3=1
 ·rw[if_pos q,if_pos (by rw[q];exact decide_eq_true rfl)]
 ·rw[if_neg q,if_neg (fun h=>q (by have:=of_decide_eq_true h;injection this))]
noncomputable def cO (j:Int):Nat:=qT.cps.toList.getD (j % 26).toNat 0
noncomputable def J5 (c k:Int) (j:Nat):Nat:=if (j:Int)=J8 c then cO (k / 8 + c / 7) else if (j:Int)=ZI c then iA (k % 8) else cO (wH c j)
noncomputable def fW (c k:Int):List Nat:=(List.range (u4 c).toNat).map (J5 c k)
noncomputable def uh (c k:Int):List Nat:=if c % 12=5∧k < 8 then [iA (k % 8)] else if c % 12=7 then (ye.getD (c / 12 % 12).toNat "").cps.toList ++ [iA (k % 8),cO (k / 8)] else if c % 3=1∧k % 2=1 then fW c (k - 1) ++ [cO (c / 3)] else fW c k
noncomputable def yU (c k:Int):Str:=⟨(uh c k).toArray⟩
theorem pI (c k:Int):(yU c k).cps.toList=uh c k:=rfl
noncomputable def aG:Sp:=fun vs H Q _=>∃(c k:Int),vs=[.int c,.int k]∧0≤c∧c < 1000000000∧0≤k∧k < 208∧∀H',qf H H'→Q (.str (yU c k)) H'
theorem bW (k:Int):iA (k % 8)∈Z0:=by
 unfold iA
 have h0:0≤k % 8:=Int.emod_nonneg _ (by omega)
 have h1:k % 8 < 8:=Int.emod_lt_of_pos _ (by omega)
 have hj:(k % 8).toNat < Z0.length:=by show (k % 8).toNat < 8;omega
 rw[List.getD_eq_getElem?_getD,List.getElem?_eq_getElem hj]
 exact List.getElem_mem hj
theorem cZ (k:Int):qT.cps.toList.getD (k % 26).toNat 0∈qT.cps.toList:=by
 have h0:0≤k % 26:=Int.emod_nonneg _ (by omega)
 have h1:k % 26 < 26:=Int.emod_lt_of_pos _ (by omega)
 have hj:(k % 26).toNat < qT.cps.toList.length:=by rw[cn.2];omega
 rw[List.getD_eq_getElem?_getD,List.getElem?_eq_getElem hj]
 exact List.getElem_mem hj
noncomputable def LS (x:Str):Prop:=∀c∈x.cps.toList,c∈qT.cps.toList
noncomputable def GY (c k k':Int) (tl:Str):Prop:=(c % 3=1∧k % 2=1∧k'=k - 1∧tl.cps.toList=[cO (c / 3)])∨(¬(c % 3=1∧k % 2=1)∧k'=k∧tl = "")
theorem rF {a b:Int} (h:decide (V.int a=V.int b)=true):a=b:=by have:=of_decide_eq_true h;injection this
theorem rM {a b:Int} (h:a=b):decide (V.int a=V.int b)=true:=by subst h;exact decide_eq_true rfl
section
variable {P:Program} {w:World} {K:PySem.W.Frag} {mg:Str→Option Value} {base:Heap} {t:xj}
theorem tZ:qV ["_law_script","_law_k"] ["_law_script","_law_k"] (z7 xo):=⟨rfl,rfl,rfl,by decide +kernel,rfl,by decide +kernel,by decide +kernel⟩
set_option maxHeartbeats 400000 in
theorem mU (T:Txt K mg t):qW P w K mg base jW 1 t.wK t.wQ ["_law_script","_law_k"] (iN K):=by
 refine T.jl.fn.ok tZ (fun vs H Q E h=>(by obtain⟨_,_,_,rfl,_⟩:=h;rfl)) (fun cdv A outer s H vs Q E hr h=>?_)
 obtain⟨a,k,ns,rfl,hA,k0,kk⟩:=h
 refine⟨_,(z8 (qM (ql ur (pv 1) (qG (jv (K:=K) rfl) rfl T.kf PySem.boot_len (z6 (pv 0) qz)) (qe _))
    (qx (qt (qk qC (qJ (qu (K:=K) rfl) (pv 0) (pv 1) (fun _ _=>rfl)) z9))) qo)
   (qx (qt z9))),?_⟩
 refine⟨_,rfl,_,rfl,a,_,rfl,.inl hA,_,_,rfl,rfl,_,rfl,?_⟩
 rw[List.length_map]
 refine jy (fun h1=>?_) (fun h1=>?_)
 ·have h1':=of_decide_eq_true h1
  rw[show wZ ns k=ns.getD k.toNat 0 % 1000000000000000000000007 from if_pos h1'] at kk
  walk_at "rd"
  exact kk
 ·have h1':¬k < (ns.length:Int):=fun q=>h1 (decide_eq_true q)
  rw[show wZ ns k=0 from if_neg h1'] at kk
  walk_at "rd"
  exact kk
theorem oB:qV ["_law_cell","_law_k","_law_number"] ["_law_cell","_law_k"] (z7 yb):=⟨rfl,rfl,rfl,by decide +kernel,rfl,by decide +kernel,by decide +kernel⟩
set_option maxHeartbeats 400000 in
theorem pV (T:Txt K mg t):qW P w K mg base jW 1 t.gj t.yA ["_law_cell","_law_k"] lX:=by
 refine T.jd.fn.ok oB (fun vs H Q E h=>(by obtain⟨_,_,rfl,_⟩:=h;rfl)) (fun cdv A outer s H vs Q E hr h=>?_)
 obtain⟨c,k,rfl,k0,k1,kk⟩:=h
 refine⟨_,(z8 (qi (i:=2) oB.nd rfl (Or.inl rfl) (qk qC (qk xk (qk qC (pv 0) z9) (qk uo z9 (qk xk (pv 1) z9))) z9))
   (qx (qt (qk kL (qk qC (qk uo (qk qC (qk uo (pv 2) (pv 2)) z9) z9) z9) z9)))),?_⟩
 walk_at "rd"
 exact kk
theorem jH:qV ["_law_cell","_law_k","_law_letters","_law_heads","_law_tail","_law_size","_law_at","_law_other","_law_name_here","_law_j","_law_letter"] ["_law_cell","_law_k"] (z7 vB):=⟨rfl,rfl,rfl,by decide +kernel,rfl,by decide +kernel,by decide +kernel⟩
set_option maxHeartbeats 400000 in
theorem Zt (T:Txt K mg t):qW P w K mg base jW 2 t.ml t.mf ["_law_cell","_law_k"] aG:=by
 have G_w_mix:qW P w K mg base jW 1 t.gj t.yA ["_law_cell","_law_k"] lX:=(pV T).mono (by decide)
 refine T.uE.fn.ok jH (fun vs H Q E h=>(by obtain⟨_,_,rfl,_⟩:=h;rfl)) (fun cdv A outer s H vs Q E hr h=>?_)
 obtain⟨c,k,rfl,c0,c1,k0,k1,kk⟩:=h
 refine⟨_,(z8 (qi (i:=2) jH.nd rfl (Or.inl rfl) qq)
   (z8 (PS.join (qM (PW.pt (gX (ql jk (qk qC (pv 0) z9) z9 (qe _)) (yh (ql ur (pv 1) z9 (qe _)))))
    (qx (qt (qJ b9 qq (pv 1) (fun _ _=>rfl)))) qo))
   (z8 (qM (ql jk (qk qC (pv 0) z9) z9 (qe _))
    (z8 (qi (i:=3) jH.nd rfl (Or.inl rfl) (qO (z6 qq (z6 qq (z6 qq (z6 qq (z6 qq (z6 qq (z6 qq (z6 qq (z6 qq (z6 qq (z6 qq (z6 qq qz))))))))))))) p8)
   (qx (qt (qk qj (qk qj (qJ (qu (K:=K) rfl) (pv 3) (qk qC (qk kL (pv 0) z9) z9) (fun _ _=>rfl)) (qJ b9 qq (qk qC (pv 1) z9) (fun _ _=>rfl))) (qJ b9 (pv 2) (qk qC (qk kL (pv 1) z9) z9) (fun _ _=>rfl)))))) qo)
   (z8 (qi (i:=4) jH.nd rfl (Or.inl rfl) qq)
   (z8 (PS.join (qM (PW.pt (gX (ql jk (qk qC (pv 0) z9) z9 (qe _)) (yh (ql jk (qk qC (pv 1) z9) z9 (qe _)))))
    (z8 (qi (i:=4) jH.nd rfl (Or.inl rfl) (qJ b9 (pv 2) (qk qC (qk kL (pv 0) z9) z9) (fun _ _=>rfl)))
   (qx (qi (i:=1) jH.nd rfl (Or.inl rfl) (qk fF (pv 1) z9)))) qo))
   (z8 (qi (i:=5) jH.nd rfl (Or.inl rfl) (qk xk z9 (qk qC (qk kL (pv 0) z9) (qk fF z9 (jI yd rfl T.fO PyProof.Rows.boot_int (z6 (kX jk (qk qC (pv 0) z9) z9 (qe _)) qz))))))
   (z8 (qi (i:=6) jH.nd rfl (Or.inl rfl) (qk qC (qk kL (pv 0) z9) (pv 5)))
   (z8 (qi (i:=7) jH.nd rfl (Or.inl rfl) (qk qC (qk xk (qk xk (pv 6) z9) (qk qC (qk kL (pv 0) z9) (qk fF (pv 5) z9))) (pv 5)))
   (z8 (qi (i:=8) jH.nd rfl (Or.inl rfl) qq)
   (z8 (fM PassesOwn.never rfl (yu rfl T.yS (z6 (pv 5) qz)) (xR (i:=9) jH.nd rfl (Or.inl rfl))
    (z8 (qi (i:=10) jH.nd rfl (Or.inl rfl) (qJ b9 (pv 2) (qk qC (qZ G_w_mix hr rfl T.jd.mg T.jd.fn.kp T.jd.bd .nil qY (z6 (pv 0) (z6 (pv 9) qz))) z9) (fun _ _=>rfl)))
   (z8 (PS.join (qM (ql jk (pv 9) (pv 6) (qe _))
    (qx (qi (i:=10) jH.nd rfl (Or.inl rfl) (qJ b9 qq (qk qC (pv 1) z9) (fun _ _=>rfl)))) qo))
   (z8 (PS.join (qM (ql jk (pv 9) (pv 7) (qe _))
    (qx (qi (i:=10) jH.nd rfl (Or.inl rfl) (qJ b9 (pv 2) (qk qC (qk xk (qk kL (pv 1) z9) (qk kL (pv 0) z9)) z9) (fun _ _=>rfl)))) qo))
   (qx (qi (i:=8) jH.nd rfl (Or.inl rfl) (qk qj (pv 8) (pv 10))))))))
   (qx (qt (qk qj (pv 8) (pv 4)))))))))))))),?_⟩
 have hs:(Str.ofString "fgjkqvxz").length=8:=aV.1
 have hl:(Str.ofString "abcdefghijklmnopqrstuvwxyz").length=26:=cn.1
 have k8:0≤k % 8:=Int.emod_nonneg _ (by decide)
 have k8':k % 8 < 8:=Int.emod_lt_of_pos _ (by decide)
 walk_at "rd"
 refine⟨fun σ' H'=>(σ'=[some (.int c),some (.int k),some (.str (Str.ofString "abcdefghijklmnopqrstuvwxyz")),none,none,none,none,none,none,none,none]∧H'=H∧¬(c % 12=5∧k < 8))∨False,?_,?_⟩
 ·walk_at "rd"
  refine jy (fun h1=>?_) (fun h1=>.inl ⟨rfl,rfl,fun q=>h1 (rM q.1)⟩)
  walk_at "rd"
  refine jy (fun h2=>?_) (fun h2=>.inl ⟨rfl,rfl,fun q=>h2 (decide_eq_true q.2)⟩)
  have h2':k < 8:=of_decide_eq_true h2
  walk_at "rd"
  have em:(⟨#[(Str.ofString "fgjkqvxz").cps.toList.getD k.toNat 0]⟩:Str)=yU c k:=by
   refine qX ?_
   rw[pI]
   unfold uh
   rw[if_pos ⟨rF h1,h2'⟩,show (Str.ofString "fgjkqvxz").cps.toList=Z0 from aV.2,show k % 8=k by omega]
   rfl
  rw[em]
  exact kk _ (qf.refl _)
 intro σ' H' q
 obtain⟨rfl,rfl,hA⟩:=q.resolve_right fun z=>z
 walk_at "rd"
 refine jy (fun h1=>?_) (fun h1=>?_)
 ·have e7:c % 12=7:=rF h1
  walk_at "rd"
  intro lh H1 s1 hlh e1
  have e2:H1 lh=some (.lst (ye.map V.str)):=e1
  clear e1
  have hk:ye.length=12:=rfl
  have b0:0≤c / 12 % 12:=Int.emod_nonneg _ (by decide)
  have b1:c / 12 % 12 < 12:=Int.emod_lt_of_pos _ (by decide)
  have b2:0≤k / 8 % 26:=Int.emod_nonneg _ (by decide)
  have b3:k / 8 % 26 < 26:=Int.emod_lt_of_pos _ (by decide)
  obtain⟨g1,g2,g3⟩:=nY _ (pU (ws:=ye) (i:=(c / 12 % 12).toNat) (by omega))
  walk_at "rd"
  rw[show (ye.getD (c / 12 % 12).toNat (Str.ofString "") ++ (⟨#[(Str.ofString "fgjkqvxz").cps.toList.getD (k % 8).toNat 0]⟩:Str) ++ (⟨#[(Str.ofString "abcdefghijklmnopqrstuvwxyz").cps.toList.getD (k / 8 % 26).toNat 0]⟩:Str))=yU c k from by
   refine qX ?_
   rw[cps_append,cps_append,pI]
   unfold uh
   rw[if_neg hA,if_pos e7,List.append_assoc,show (Str.ofString "fgjkqvxz").cps.toList=Z0 from aV.2]
   rfl]
  exact kk H1 (by walk_at "sm")
 have n7:¬c % 12=7:=fun q=>h1 (rM q)
 walk_at "rd"
 refine⟨fun σ' H2=>(∃(tl:Str) (k':Int),σ'=[some (.int c),some (.int k'),some (.str (Str.ofString "abcdefghijklmnopqrstuvwxyz")),none,some (.str tl),none,none,none,none,none,none]∧H2=H'∧GY c k k' tl)∨False,?_,?_⟩
 ·walk_at "rd"
  refine jy (fun h2=>?_) (fun h2=>.inl ⟨_,_,rfl,rfl,.inr ⟨fun q=>h2 (rM q.1),rfl,rfl⟩⟩)
  walk_at "rd"
  refine jy (fun h3=>?_) (fun h3=>.inl ⟨_,_,rfl,rfl,.inr ⟨fun q=>h3 (rM q.2),rfl,rfl⟩⟩)
  have b2:0≤c / 3 % 26:=Int.emod_nonneg _ (by decide)
  have b3:c / 3 % 26 < 26:=Int.emod_lt_of_pos _ (by decide)
  walk_at "rd"
  exact .inl ⟨_,_,rfl,rfl,.inl ⟨rF h2,rF h3,rfl,rfl⟩⟩
 intro σ' H2 q
 obtain⟨tl,k',rfl,rfl,hT⟩:=q.resolve_right fun z=>z
 clear q
 have z1:=oS c
 have a1:=eX c
 have o1:=Q6 c
 have k'0:0≤k'∧k' < 208:=by rcases hT with ⟨_,_,e,_⟩ | ⟨_,e,_⟩<;>omega
 walk_at "rd"
 refine .inr ⟨_,rfl,_,_,rfl,rfl,_,_,rfl,rfl,ZF _,_,_,rfl,rfl,?_⟩
 show dH 5 (V.int (2 + c / 81 % (7 - (if decide (V.int (c % 3)=V.int 1)=true then (1:Int) else 0)))) _ _ _
 rw[Gn c]
 walk_at "rd"
 refine pO (lo:=0) (n:=(u4 c).toNat) (fun i σ H3=>∃(x:Str) (v9 v10:Option V),σ=[some (.int c),some (.int k'),some (.str (Str.ofString "abcdefghijklmnopqrstuvwxyz")),none,some (.str tl),some (.int (u4 c)),some (.int (ZI c)),some (.int (J8 c)),some (.str x),v9,v10]∧H3=H2∧x.cps.toList=(List.range i).map (J5 c k')∧(i=i∨False))
  ⟨"",none,none,rfl,rfl,(show ("" : Str).cps.toList=[] from by decide +kernel),.inl rfl⟩ ?_ ?_
 ·rintro i σ H3 hi ⟨x,v9,v10,rfl,rfl,hx,_⟩
  have k'8:0≤k' % 8:=Int.emod_nonneg _ (by decide)
  have k'8':k' % 8 < 8:=Int.emod_lt_of_pos _ (by decide)
  have em:(Str.ofString "fgjkqvxz").cps.toList.getD (k' % 8).toNat 0=iA (k' % 8):=by
   rw[show (Str.ofString "fgjkqvxz").cps.toList=Z0 from aV.2];rfl
  have b0:0≤(k' / 8 + c / 7) % 26:=Int.emod_nonneg _ (by decide)
  have b1:(k' / 8 + c / 7) % 26 < 26:=Int.emod_lt_of_pos _ (by decide)
  have bm:=fH c (0 + (i:Int))
  walk_at "rd"
  refine⟨fun σ' H'=>(∃ch:Nat,σ'=[some (.int c),some (.int k'),some (.str (Str.ofString "abcdefghijklmnopqrstuvwxyz")),none,some (.str tl),some (.int (u4 c)),some (.int (ZI c)),some (.int (J8 c)),some (.str x),some (.int (0 + (i:Int))),some (.str ⟨#[ch]⟩)]∧H'=H3∧ch=(if (i:Int)=ZI c then iA (k' % 8) else cO (wH c i)))∨False,?_,?_⟩
  ·walk_at "rd"
   refine jy (fun h2=>?_) (fun h2=>.inl ⟨_,rfl,rfl,?_⟩)
   ·have h2':=rF h2
    walk_at "rd"
    exact .inl ⟨_,rfl,rfl,by rw[if_pos (by omega)];exact em⟩
   ·rw[if_neg (fun q=>h2 (rM (by omega))),Int.zero_add]
    rfl
  intro σ' H' q
  obtain⟨ch,rfl,rfl,m1⟩:=q.resolve_right fun z=>z
  clear q
  refine⟨fun σ' H3=>(∃ch:Nat,σ'=[some (.int c),some (.int k'),some (.str (Str.ofString "abcdefghijklmnopqrstuvwxyz")),none,some (.str tl),some (.int (u4 c)),some (.int (ZI c)),some (.int (J8 c)),some (.str x),some (.int (0 + (i:Int))),some (.str ⟨#[ch]⟩)]∧H3=H'∧ch=J5 c k' i)∨False,?_,?_⟩
  ·walk_at "rd"
   refine jy (fun h2=>?_) (fun h2=>.inl ⟨_,rfl,rfl,?_⟩)
   ·have h2':=rF h2
    walk_at "rd"
    exact .inl ⟨_,rfl,rfl,by unfold J5;rw[if_pos (by omega)];rfl⟩
   ·unfold J5
    rw[if_neg (fun q=>h2 (rM (by omega)))]
    exact m1
  intro σ' H3 q
  obtain⟨ch,rfl,rfl,m1⟩:=q.resolve_right fun z=>z
  clear q
  have hx9:x.length≤8:=by
   have:=congrArg List.length hx
   rw[List.length_map,List.length_range] at this
   (have e:x.cps.toList.length=x.length:=by simp [Str.length])
   omega
  walk_at "rd"
  refine⟨?_,.inl rfl⟩
  rw[cps_append,hx,List.range_succ,List.map_append,m1]
  rfl
 ·rintro σ H3 ⟨x,v9,v10,rfl,rfl,hx,_⟩
  have e:x ++ tl=yU c k:=by
   refine qX ?_
   rw[cps_append,pI]
   unfold uh
   rw[if_neg hA,if_neg n7]
   rcases hT with ⟨e1,e2,e3,e4⟩ | ⟨e1,e2,e3⟩
   ·rw[if_pos ⟨e1,e2⟩,e4,hx,e3];rfl
   ·rw[if_neg e1,e3,hx,e2,show ("" : Str).cps.toList=[] from by decide +kernel,List.append_nil];rfl
  have hx9:x.length≤8:=by
   have:=congrArg List.length hx
   rw[List.length_map,List.length_range] at this
   (have e:x.cps.toList.length=x.length:=by simp [Str.length])
   omega
  have hT9:tl.length≤1:=by
   rcases hT with ⟨_,_,_,e⟩ | ⟨_,_,e⟩
   ·have:=congrArg List.length e
    have e':tl.cps.toList.length=tl.length:=by simp [Str.length]
    rw[e'] at this;simp only[List.length_cons,List.length_nil] at this;omega
   ·rw[e];decide +kernel
  walk_at "rd"
  rw[e]
  exact kk _ (qf.refl _)
end
theorem HU:qT.cps.toList.Nodup:=by decide +kernel
theorem PB:Z0.Nodup:=by decide +kernel
theorem getD_inj {L:List Nat} (h:L.Nodup) {i j:Nat} (hi:i < L.length) (hj:j < L.length) (e:L.getD i 0=L.getD j 0):i=j:=by
 rw[List.getD_eq_getElem?_getD,List.getD_eq_getElem?_getD,List.getElem?_eq_getElem hi,List.getElem?_eq_getElem hj] at e
 have e':L[i]=L[j]:=e
 have hp:=List.nodup_iff_pairwise_ne.mp h
 rcases Nat.lt_trichotomy i j with q | q | q
 ·exact absurd e' (List.pairwise_iff_getElem.mp hp i j hi hj q)
 ·exact q
 ·exact absurd e'.symm (List.pairwise_iff_getElem.mp hp j i hj hi q)
theorem nP {a b:Int} (e:cO a=cO b):a % 26=b % 26:=by
 have a0:0≤a % 26:=Int.emod_nonneg _ (by decide)
 have a1:a % 26 < 26:=Int.emod_lt_of_pos _ (by decide)
 have b0:0≤b % 26:=Int.emod_nonneg _ (by decide)
 have b1:b % 26 < 26:=Int.emod_lt_of_pos _ (by decide)
 have:=getD_inj HU (i:=(a % 26).toNat) (j:=(b % 26).toNat) (by rw[cn.2];omega) (by rw[cn.2];omega) e
 omega
theorem tW {a b:Int} (e:iA (a % 8)=iA (b % 8)):a % 8=b % 8:=by
 have a0:0≤a % 8:=Int.emod_nonneg _ (by decide)
 have a1:a % 8 < 8:=Int.emod_lt_of_pos _ (by decide)
 have b0:0≤b % 8:=Int.emod_nonneg _ (by decide)
 have b1:b % 8 < 8:=Int.emod_lt_of_pos _ (by decide)
 have:=getD_inj PB (i:=(a % 8).toNat) (j:=(b % 8).toNat) (by show _ < 8;omega) (by show _ < 8;omega) e
 omega
theorem vA (c k:Int):(fW c k).length=(u4 c).toNat:=by unfold fW;rw[List.length_map,List.length_range]
theorem lR (c k:Int):(fW c k)[(ZI c).toNat]?=some (iA (k % 8)):=by
 have a1:=eX c
 have o1:=Q6 c
 unfold fW
 rw[List.getElem?_map,List.getElem?_range (by omega)]
 show some (J5 c k (ZI c).toNat)=_
 unfold J5
 rw[if_neg (by omega),if_pos (by omega)]
theorem Qy (c k:Int):(fW c k)[(J8 c).toNat]?=some (cO (k / 8 + c / 7)):=by
 have o1:=Q6 c
 unfold fW
 rw[List.getElem?_map,List.getElem?_range (by omega)]
 show some (J5 c k (J8 c).toNat)=_
 unfold J5
 rw[if_pos (by omega)]
theorem eY (c k:Int):∀x∈fW c k,x∈qT.cps.toList:=by
 intro x hx
 unfold fW at hx
 obtain⟨j,_,rfl⟩:=List.mem_map.mp hx
 unfold J5
 split
 ·exact cZ _
 ·split
  ·exact iE _ (bW k)
  ·exact cZ _
theorem cw {c k1 k2:Int} (h1:0≤k1∧k1 < 208) (h2:0≤k2∧k2 < 208) (e:fW c k1=fW c k2):k1=k2:=by
 have e1:=lR c k1
 rw[e,lR c k2] at e1
 have e2:=Qy c k1
 rw[e,Qy c k2] at e2
 have f1:=tW (Option.some.inj e1)
 have f2:=nP (Option.some.inj e2)
 omega
theorem gf (c:Int) {k:Int}:qw (yU c k)=true:=by
 have z1:=oS c
 have a1:=eX c
 have len:(yU c k).length=(uh c k).length:=by rw[←pI];simp [Str.length]
 have key:1≤(uh c k).length∧(uh c k).length≤8∧(∀x∈uh c k,x∈qT.cps.toList)∧∃x∈uh c k,x∈Z0:=by
  unfold uh
  split
  ·exact⟨by simp,by simp,fun x hx=>by rw[List.mem_singleton.mp hx];exact iE _ (bW k),_,List.mem_singleton.mpr rfl,bW k⟩
  ·split
   ·have b0:0≤c / 12 % 12:=Int.emod_nonneg _ (by decide)
    have b1:c / 12 % 12 < 12:=Int.emod_lt_of_pos _ (by decide)
    obtain⟨g1,g2,g3⟩:=nY _ (pU (ws:=ye) (i:=(c / 12 % 12).toNat) (by show _ < 12;omega))
    have e:(ye.getD (c / 12 % 12).toNat "").cps.toList.length=(ye.getD (c / 12 % 12).toNat "").length:=by simp [Str.length]
    refine⟨by rw[List.length_append];simp only[List.length_cons,List.length_nil];omega,by rw[List.length_append];simp only[List.length_cons,List.length_nil];omega,fun x hx=>?_,iA (k % 8),by simp,bW k⟩
    (rcases List.mem_append.mp hx with hx | hx)
    ·exact g3 x hx
    ·simp only[List.mem_cons,List.not_mem_nil,or_false] at hx
     rcases hx with rfl | rfl
     ·exact iE _ (bW k)
     ·exact cZ _
   ·split
    ·rename_i h
     have:=z1.2.2 h.1
     refine⟨by rw[List.length_append,vA];simp only[List.length_cons,List.length_nil];omega,by rw[List.length_append,vA];simp only[List.length_cons,List.length_nil];omega,fun x hx=>?_,iA ((k - 1) % 8),List.mem_append_left _ (List.mem_of_getElem? (lR c (k - 1))),bW _⟩
     (rcases List.mem_append.mp hx with hx | hx)
     ·exact eY _ _ x hx
     ·rw[List.mem_singleton.mp hx];exact cZ _
    ·exact⟨by rw[vA];omega,by rw[vA];omega,eY c k,iA (k % 8),List.mem_of_getElem? (lR c k),bW k⟩
 exact XW (by rw[len];exact key.1) (by rw[len];exact key.2.1) key.2.2.1 key.2.2.2
theorem XF {c k:Int} (h:c % 12=5) (q:k < 8):uh c k=[iA (k % 8)]:=by unfold uh;rw[if_pos ⟨h,q⟩]
theorem ai {c k:Int} (h:c % 12=5) (q:¬k < 8):uh c k=fW c k:=by unfold uh;rw[if_neg (fun z=>q z.2),if_neg (by omega),if_neg (by omega)]
theorem YR {c k:Int} (h:c % 12=7):uh c k=(ye.getD (c / 12 % 12).toNat "").cps.toList ++ [iA (k % 8),cO (k / 8)]:=by unfold uh;rw[if_neg (by omega),if_pos h]
theorem XB {c k:Int} (h:¬c % 12=5) (h7:¬c % 12=7) (h3:c % 3=1) (q:k % 2=1):uh c k=fW c (k - 1) ++ [cO (c / 3)]:=by unfold uh;rw[if_neg (fun z=>h z.1),if_neg h7,if_pos ⟨h3,q⟩]
theorem Zr {c k:Int} (h:¬c % 12=5) (h7:¬c % 12=7) (q:¬(c % 3=1∧k % 2=1)):uh c k=fW c k:=by unfold uh;rw[if_neg (fun z=>h z.1),if_neg h7,if_neg q]
theorem Wb {c k1 k2:Int} (h1:0≤k1∧k1 < 208) (h2:0≤k2∧k2 < 208) (e:yU c k1=yU c k2):k1=k2:=by
 have e':uh c k1=uh c k2:=by rw[←pI,←pI,e]
 have z1:=oS c
 have el:=congrArg List.length e'
 by_cases c5:c % 12=5
 ·by_cases q1:k1 < 8<;>by_cases q2:k2 < 8
  ·rw[XF c5 q1,XF c5 q2] at e'
   have:=tW (List.cons.inj e').1
   omega
  ·rw[XF c5 q1,ai c5 q2,vA] at el
   simp only[List.length_cons,List.length_nil] at el
   omega
  ·rw[ai c5 q1,XF c5 q2,vA] at el
   simp only[List.length_cons,List.length_nil] at el
   omega
  ·rw[ai c5 q1,ai c5 q2] at e'
   exact cw h1 h2 e'
 by_cases c7:c % 12=7
 ·rw[YR c7,YR c7] at e'
  have:=List.append_cancel_left e'
  obtain⟨f1,f2⟩:=List.cons.inj this
  have g1:=tW f1
  have g2:=nP (List.cons.inj f2).1
  omega
 by_cases c3:c % 3=1
 ·by_cases q1:k1 % 2=1<;>by_cases q2:k2 % 2=1
  ·rw[XB c5 c7 c3 q1,XB c5 c7 c3 q2] at e'
   have:=cw (by omega) (by omega) (List.append_cancel_right e')
   omega
  ·rw[XB c5 c7 c3 q1,Zr c5 c7 (fun z=>q2 z.2),List.length_append,vA,vA] at el
   simp only[List.length_cons,List.length_nil] at el
   omega
  ·rw[Zr c5 c7 (fun z=>q1 z.2),XB c5 c7 c3 q2,List.length_append,vA,vA] at el
   simp only[List.length_cons,List.length_nil] at el
   omega
  ·rw[Zr c5 c7 (fun z=>q1 z.2),Zr c5 c7 (fun z=>q2 z.2)] at e'
   exact cw h1 h2 e'
 ·rw[Zr c5 c7 (fun z=>c3 z.1),Zr c5 c7 (fun z=>c3 z.1)] at e'
  exact cw h1 h2 e'
section
variable {P:Program} {w:World} {K:PySem.W.Frag} {mg:Str→Option Value} {base:Heap} {t:xj}
end
theorem aW:("; " : Str)=⟨#[59,32]⟩:=by decide +kernel
theorem Ju:("; " : Str).cps.toList=[59,32]:=by decide +kernel
noncomputable def d6 (l:List Nat):Prop:=∀j:Nat,l[j]?=some 59→l[j + 1]?=some 32→False
theorem Qx {x:Str} {i:Nat} (h1:x.cps.toList[i]?=some 59) (h2:x.cps.toList[i + 1]?=some 32):StrLaws.At x ⟨#[59,32]⟩ x.length i:=by
 obtain⟨g1,e1⟩:=List.getElem?_eq_some_iff.mp h1
 obtain⟨g2,e2⟩:=List.getElem?_eq_some_iff.mp h2
 have hl:x.cps.toList.length=x.length:=by simp [Str.length]
 refine⟨by show i + 2≤x.length;omega,?_⟩
 rw[StrLaws.subAt_eq]
 show ((x.cps.toList.drop i).take 2 == [59,32])=true
 rw[List.drop_eq_getElem_cons g1,List.drop_eq_getElem_cons g2,e1,e2]
 rfl
theorem om {x:Str} {a b:Nat} (hn:∀k,a≤k→k < b→¬StrLaws.At x ⟨#[59,32]⟩ x.length k):d6 (Builtin.Str.strSub x a b).cps.toList:=by
 intro j h1 h2
 rw[StrLaws.strSub_toList] at h1 h2
 have hj:j + 1 < b - a:=by
  have:=(List.getElem?_eq_some_iff.mp h2).1
  rw[List.length_take] at this
  omega
 rw[List.getElem?_take_of_lt (by omega),List.getElem?_drop] at h1
 rw[List.getElem?_take_of_lt hj,List.getElem?_drop] at h2
 exact hn (a + j) (by omega) (by omega) (Qx h1 (by rw[Nat.add_assoc];exact h2))
theorem lZ {x:Str}:∀{cuts:List Nat} {a f:Nat},StrLaws.ChainG x ⟨#[59,32]⟩ x.length a cuts f→(∀k,f≤k→¬StrLaws.At x ⟨#[59,32]⟩ x.length k)→∀p∈StrLaws.partsFrom x 2 a cuts,d6 p.cps.toList
 | [],a,f,h,hn,y,hy=>by
  obtain rfl:f=a:=h
  rw[List.mem_singleton.mp hy]
  exact om fun k h1 _=>hn k h1
 | d :: r,a,f,h,hn,y,hy=>by
  rcases List.mem_cons.mp hy with rfl | hy'
  ·exact om h.2.2.1
  ·exact lZ h.2.2.2 hn y hy'
theorem lK (x:Str):∀p∈Txt.split x ⟨#[59,32]⟩,d6 p.cps.toList:=by
 obtain⟨f,hG,hn⟩:=StrLaws.occ_tight x ⟨#[59,32]⟩ (by show 1≤2;decide)
 intro p hp
 have whole:(∀k,¬StrLaws.At x ⟨#[59,32]⟩ x.length k)→d6 x.cps.toList:=fun h j h1 h2=>h j (Qx h1 h2)
 unfold Txt.split at hp
 split at hp
 ·rename_i hc
  rw[List.mem_singleton.mp hp]
  refine whole fun k hA=>?_
  (rw[Bool.or_eq_true,decide_eq_true_eq,decide_eq_true_eq] at hc)
  rcases hc with q | q
  ·have:=hA.1;omega
  ·have e:Builtin.Str.strKind ⟨#[59,32]⟩=1:=by decide +kernel
   rw[e] at q
   unfold Builtin.Str.strKind at q
   split at q
   ·omega
   ·split at q<;>omega
 ·split at hp
  ·rename_i he
   rw[List.mem_singleton.mp hp]
   rw[List.isEmpty_iff.mp he] at hG
   obtain rfl:f=0:=hG
   exact whole fun k=>hn k (Nat.zero_le _)
  ·rw[StrLaws.partsBetween_eq] at hp
   exact lZ hG hn p hp
noncomputable def G2 (l:List Nat):Prop:=∀j:Nat,l[j]?=some 59→l[j + 1]?=some 32
theorem G2.free {l:List Nat} (h:59∉l):G2 l:=fun j e=>absurd (List.mem_of_getElem? e) h
theorem kd (x y:Str) (r:List Str):(Str.join "; " (x :: y :: r)).cps.toList=x.cps.toList ++ 59 :: 32 :: (Str.join "; " (y :: r)).cps.toList:=by
 rw[cT,cps_append,cps_append,Ju]
 simp
theorem G2.glue {x l:List Nat} (hx:59∉x) (hl:G2 l):G2 (x ++ 59 :: 32 :: l):=by
 intro j e
 by_cases q:j < x.length
 ·rw[List.getElem?_append_left q] at e
  exact absurd (List.mem_of_getElem? e) hx
 ·rw[List.getElem?_append_right (by omega)] at e ⊢
  rw[show j + 1 - x.length=(j - x.length) + 1 by omega]
  generalize j - x.length=i at e ⊢
  match i,e with
  | 0,_=>rfl
  | 1,e=>cases e
  | i + 2,e=>exact hl i e
theorem G2.join:∀{rows:List Str},(∀x∈rows,59∉x.cps.toList)→G2 (Str.join "; " rows).cps.toList
 | [],_=>G2.free (by decide +kernel)
 | [x],h=>by rw[L2.join_one];exact G2.free (h x (by simp))
 | x :: y :: r,h=>by
  rw[kd]
  exact G2.glue (h x (by simp)) (G2.join fun z hz=>h z (List.mem_cons_of_mem _ hz))
theorem cR:∀{ps:List Str},G2 (Str.join "; " ps).cps.toList→(∀p∈ps,d6 p.cps.toList)→∀p∈ps,59∉p.cps.toList
 | [],_,_,p,hp=>by cases hp
 | [x],h,hn,p,hp=>by
  rw[L2.join_one] at h
  rw[List.mem_singleton.mp hp]
  intro hm
  (obtain⟨j,hj⟩:=List.getElem?_of_mem hm)
  exact hn x (by simp) j hj (h j hj)
 | x :: y :: r,h,hn,p,hp=>by
  rw[kd] at h
  have h':G2 (Str.join "; " (y :: r)).cps.toList:=fun j e=>by
   have:=h (x.cps.toList.length + (j + 2)) (by rw[List.getElem?_append_right (by omega),Nat.add_sub_cancel_left];exact e)
   rw[List.getElem?_append_right (by omega),show x.cps.toList.length + (j + 2) + 1 - x.cps.toList.length=j + 1 + 2 by omega] at this
   exact this
  (rcases List.mem_cons.mp hp with rfl | hp)
  ·intro hm
   (obtain⟨j,hj⟩:=List.getElem?_of_mem hm)
   have hjl:=(List.getElem?_eq_some_iff.mp hj).1
   have e:=h j (by rw[List.getElem?_append_left hjl];exact hj)
   by_cases q:j + 1 < p.cps.toList.length
   ·rw[List.getElem?_append_left q] at e
    exact hn p (by simp) j hj e
   ·rw[List.getElem?_append_right (by omega),show j + 1 - p.cps.toList.length=0 by omega] at e
    cases e
  ·exact cR h' (fun z hz=>hn z (List.mem_cons_of_mem _ hz)) p hp
theorem rR:∀{as bs:List Str},as≠[]→bs≠[]→(∀x∈as,59∉x.cps.toList)→(∀x∈bs,59∉x.cps.toList)→Str.join "; " as=Str.join "; " bs→as=bs
 | [],_,h,_,_,_,_=>absurd rfl h
 | _ :: _,[],_,h,_,_,_=>absurd rfl h
 | [a],[b],_,_,_,_,e=>by rw[show a=b from e]
 | [a],b :: b' :: r,_,_,ha,_,e=>by
  have e':=congrArg (fun z=>z.cps.toList) e
  simp only[kd,L2.join_one] at e'
  exact absurd (by rw[e'];simp) (ha a (by simp))
 | a :: a' :: r,[b],_,_,_,hb,e=>by
  have e':=congrArg (fun z=>z.cps.toList) e
  simp only[kd,L2.join_one] at e'
  exact absurd (by rw[←e'];simp) (hb b (by simp))
 | a :: a' :: r,b :: b' :: r',_,_,ha,hb,e=>by
  have e':=congrArg (fun z=>z.cps.toList) e
  simp only[kd] at e'
  obtain⟨e1,e2⟩:=cG (ha a (by simp)) (hb b (by simp)) e'
  have:=rR (as:=a' :: r) (bs:=b' :: r') (by simp) (by simp) (fun x hx=>ha x (List.mem_cons_of_mem _ hx)) (fun x hx=>hb x (List.mem_cons_of_mem _ hx)) (qX (List.cons.inj e2).2)
  rw[qX e1,this]
theorem ZV {rows:List Str} (h:rows≠[]) (hb:∀x∈rows,59∉x.cps.toList):Txt.split (Txt.join "; " rows) "; " = rows:=by
 rw[join_eq]
 have hj:Str.join "; " (Txt.split (Str.join "; " rows) "; ")=Str.join "; " rows:=StrLaws.join_split _ _
 refine(rR h ?_ hb ?_ hj.symm).symm
 ·intro q
  have:=PyProof.Rows.split_pos (Str.join "; " rows) "; "
  rw[q] at this
  simp at this
 ·refine cR ?_ ?_
  ·rw[hj];exact G2.join hb
  ·rw[aW];exact lK _
section
variable {P:Program} {w:World} {K:PySem.W.Frag} {mg:Str→Option Value} {base:Heap} {t:xj}
end
noncomputable def qQ (ws:List Str):Str:=Txt.join " " ws
theorem yg {x:Str} (h:qw x=true):32∉x.cps.toList:=(kJ h).2.2.nb
theorem sy:∀x∈(["let","be","part","done","parties","acts","calm","sore","end"]:List Str),32∉x.cps.toList∧59∉x.cps.toList∧x.length≤7:=by decide +kernel
theorem Kg {a b:Str} (ha:qw a=true) (hb:qw b=true):yC [10,0,11,0] ["let",a,"be",b]:=.cons (.inr (.inr (.inr ⟨by decide,rfl⟩))) (.cons (.inl ⟨rfl,ha⟩) (.cons (.inr (.inr (.inr ⟨by decide,rfl⟩))) (.cons (.inl ⟨rfl,hb⟩) .nil)))
theorem Jc {n:Str} (h:qw n=true):yC [12,0] ["part",n]:=.cons (.inr (.inr (.inr ⟨by decide,rfl⟩))) (.cons (.inl ⟨rfl,h⟩) .nil)
theorem pY {fr:List Fr} {r:Rw}:(push fr r).length=fr.length:=by
 cases fr with
 | nil=>rfl
 | cons f fr=>obtain⟨a,b,c⟩:=f;rfl
section
variable {P:Program} {w:World} {K:PySem.W.Frag} {mg:Str→Option Value} {base:Heap} {t:xj}
end
theorem cX {n:Int} (h1:1≤n) (h2:n < 10 ^ 20):Rt 1 (Str.ofString (toString n))∧vC (Str.ofString (toString n))=n∧Wk (Str.ofString (toString n))∧(Str.ofString (toString n)).length≤20:=by
 obtain⟨m,rfl⟩:=Int.eq_ofNat_of_zero_le (show 0≤n by omega)
 have e:=PySem.W.KIN.signs_num m
 have hg:=QA (n:=(m:Int)) (by omega) (by omega)
 generalize hs:Str.ofString (toString ((m:Nat):Int))=s at *
 have hl:s.length=(Nat.toDigits 10 m).length:=by
  have:=congrArg List.length e
  rw[List.length_map] at this
  rw[←this]
  simp [Str.length]
 have hdig:PySem.NumText.AllDigits s.cps.toList:=by
  rw[e]
  intro c hc
  obtain⟨ch,hch,rfl⟩:=List.mem_map.mp hc
  have:=Nat.isDigit_of_mem_toDigits (b:=10) (by decide) (by decide) hch
  simp [Char.isDigit] at this
  exact⟨by have:=this.1;exact this,by have:=this.2;exact this⟩
 have hv:PySem.NumText.digitsVal s.cps.toList=m:=by rw[e];exact PySem.W.KIN.val_back m
 have hhead:s.cps.toList.head?≠some 48:=by
  intro q
  have ta:=PySem.NumText.toDigits_all s.cps.toList hdig
  rw[hv] at ta
  cases qc:s.cps.toList with
  | nil=>rw[qc] at q;cases q
  | cons c r=>
   rw[qc] at q ta hv
   have hc:c=48:=by simpa using q
   subst hc
   rw[List.dropWhile_cons] at ta
   have hlen:(Nat.toDigits 10 m).length=r.length + 1:=by
    rw[←hl]
    have:s.length=s.cps.toList.length:=by simp [Str.length]
    rw[this,qc];rfl
   have hd:(r.dropWhile (· == 48)).length≤r.length:=(List.dropWhile_sublist _).length_le
   cases qd:r.dropWhile (· == 48) with
   | nil=>
    simp only[show ((48:Nat) == 48)=true from rfl,if_true,qd] at ta
    rw[ta] at hlen
    have:r=[]:=by cases r;rfl;simp at hlen
    subst this
    have:PySem.NumText.digitsVal [48]=0:=rfl
    omega
   | cons d r'=>
    simp only[show ((48:Nat) == 48)=true from rfl,if_true,qd] at ta
    rw[ta,List.length_map] at hlen
    rw[qd] at hd
    omega
 have hlen20:s.length≤20:=by
  rw[hl]
  refine digits10_le (by decide) ?_
  exact_mod_cast h2
 have hw:bR s kz 20=true:=by
  unfold bR
  rw[decide_eq_true hg.2.1,decide_eq_true (show (s.length:Int)≤20 by omega)]
  simp only[Bool.true_and]
  exact List.all_eq_true.mpr fun c hc=>by rw[nV];exact decide_eq_true (hdig c hc)
 have hn:vC s=(m:Int):=by
  unfold vC
  rw[if_pos ⟨hw,hhead⟩,hv]
 have nl:qw s=false:=by
  cases q:qw s with
  | false=>rfl
  | true=>rw[name_num q] at hn;omega
 refine⟨.inr (.inl ⟨rfl,nl,by rw[hn];omega,fun q=>?_⟩),hn,⟨hg.2.2,fun hc=>?_⟩,hlen20⟩
 ·rw[(cQ s q).2] at hn;omega
 ·have:=hdig 32 hc;omega
theorem ag:∀x∈lits,(∀c∈x.cps.toList,c < 128)∧32∉x.cps.toList∧x.length≤4:=by decide +kernel
theorem rn {x:Str} (h:qw x=true):Rt 0 x:=.inl ⟨rfl,h⟩
theorem rl {x:Str} {k:Nat} (h:lits[k]?=some x):Rt (k + 3) x:=.inr (.inr (.inr ⟨by omega,by rw[Nat.add_sub_cancel];exact h⟩))
structure Wt (k:Nat) (x:Str):Prop where
 rt:Rt k x
 wk:Wk x
 len:x.length≤20
theorem wn {x:Str} (h:qw x=true):Wt 0 x:=⟨rn h,(kJ h).2.2,by have:=(kJ h).2.1;omega⟩
theorem wl {x:Str} {k:Nat} (h:lits[k]?=some x):Wt (k + 3) x:=by
 obtain⟨h1,h2,h3⟩:=ag x (List.mem_of_getElem? h)
 exact⟨rl h,⟨h1,h2⟩,by omega⟩
noncomputable abbrev ZO:List Nat→List Str→Prop:=Paired Wt
theorem ZO.Yy {ks:List Nat} {ws:List Str} (h:ZO ks ws):yC ks ws:=Paired.QR h fun _ _ q=>q.rt
theorem ZO.wk:∀{ks:List Nat} {ws:List Str},ZO ks ws→∀x∈ws,Wk x∧x.length≤20
 | _,_,.nil,x,hx=>by cases hx
 | _,_,.cons r t,x,hx=>by
  (rcases List.mem_cons.mp hx with rfl | hx)
  ·exact⟨r.wk,r.len⟩
  ·exact ZO.wk t x hx
theorem eF {ks:List Nat} {ws:List Str} (r:yC ks ws) (h1:jr ks fZ=false) (h2:jr ks gJ=false) (h3:jr ks sP=false) (h4:jr ks pW=false):ji ws=none:=by
 obtain⟨f1,f2,f3,f4,f5,f6⟩:=jS
 obtain⟨o1,o2,o3,o4,o5,o6⟩:=oo
 unfold ji
 rw[if_neg (kr r o1 f1 h1),if_neg (kr r o2 f2 h2),if_neg (kr r o3 f3 h3),if_neg (kr r o4 f4 h4)]
noncomputable def oE (u:Str):Prop:=qw u=true∨u = "any"
theorem wu {u:Str} (h:oE u):∃k,(k=0∨k=3)∧Wt k u:=by
 rcases h with h | rfl
 ·exact⟨0,.inl rfl,wn h⟩
 ·exact⟨3,.inr rfl,wl (k:=0) rfl⟩
theorem ou {ks:List Nat} {ws:List Str} (r:yC ks ws) (h:jr (ks.take 2) ua=true):kx (ws.take 2) cC=true:=p9 (r.take 2) oo.2.2.2.2.2 jS.2.2.2.2.2 h
theorem dX:∀{rs:List Str},(∀x∈rs,qw x=true)→ZO (List.replicate rs.length 0) rs
 | [],_=>.nil
 | x :: r,h=>.cons (wn (h x (by simp))) (dX fun y hy=>h y (List.mem_cons_of_mem _ hy))
noncomputable def p6 (m:Nat):List Nat:=[12,0,13] ++ List.replicate m 0
noncomputable def Vd (m:Nat):Bool:=!jr (p6 m) fZ && !jr (p6 m) gJ && !jr (p6 m) sP && !jr (p6 m) pW && !jr (p6 m) Zi && !uK (p6 m) && jr ((p6 m).take 2) ua
theorem Bx:∀m < 13,1≤m→Vd m=true:=by decide +kernel
inductive Ew where
 | lt (a b:Str)
 | mu (l w a:Str) (n:Int) (r:Str)
 | my (l w a:Str)
 | bn (l w a r:Str)
 | pw (l w a r:Str)
 | pt (n:Str) (rs:List Str)
 | dn
noncomputable def Ew.ws:Ew→List Str
 | .lt a b=>["let",a,"be",b]
 | .mu l w a n r=>[l,w,"must",a,"by",Str.ofString (toString n),"else",r]
 | .my l w a=>[l,w,"may",a]
 | .bn l w a r=>[l,w,"may","not",a,"else",r]
 | .pw l w a r=>[l,w,"by",a,"to",r]
 | .pt n []=>["part",n]
 | .pt n (x :: rs)=>"part" :: n :: "in" :: x :: rs
 | .dn=>["done"]
noncomputable def Ew.row (e:Ew):Str:=Txt.join " " e.ws
noncomputable def Ew.ok:Ew→Prop
 | .lt a b=>qw a=true∧qw b=true
 | .mu l w a n r=>qw l=true∧qw w=true∧qw a=true∧1≤n∧n < 10 ^ 20∧qw r=true
 | .my l w a=>qw l=true∧oE w∧qw a=true
 | .bn l w a r=>qw l=true∧oE w∧qw a=true∧qw r=true
 | .pw l w a r=>qw l=true∧oE w∧qw a=true∧qw r=true
 | .pt n rs=>qw n=true∧(∀x∈rs,qw x=true)∧rs.length≤12
 | .dn=>True
noncomputable def Ew.take (fr:List Fr) (ls:List Str):Ew→Option (List Fr × List Str)
 | .lt a b=>some (push fr (.lt a b),ls)
 | .mu l w a n r=>if l∈ls then none else some (push fr (.cl 0 l w a n r),ls ++ [l])
 | .my l w a=>if l∈ls then none else some (push fr (.cl 1 l w a 0 ""),ls ++ [l])
 | .bn l w a r=>if l∈ls then none else some (push fr (.cl 2 l w a 0 r),ls ++ [l])
 | .pw l w a r=>if l∈ls then none else some (push fr (.cl 3 l w a 0 r),ls ++ [l])
 | .pt n rs=>if fr.length=7∨n∈ls then none else some ((n,rs,[]) :: fr,ls ++ [n])
 | .dn=>match fr with
  | (n,rs,rows) :: (n2,rs2,rows2) :: fr'=>some ((n2,rs2,rows2 ++ [.pt n rs rows]) :: fr',ls)
  | _=>none
theorem Ew.P9:∀{e:Ew},e.ok→(∃ks,ZO ks e.ws)∨e=.dn
 | .lt a b,h=>.inl ⟨_,.cons (wl (k:=7) rfl) (.cons (wn h.1) (.cons (wl (k:=8) rfl) (.cons (wn h.2) .nil)))⟩
 | .mu l w a n r,h=>by
  obtain⟨t1,t2,t3,t4⟩:=cX h.2.2.2.1 h.2.2.2.2.1
  exact .inl ⟨[0,0,4,0,7,1,8,0],.cons (wn h.1) (.cons (wn h.2.1) (.cons (wl (k:=1) rfl) (.cons (wn h.2.2.1) (.cons (wl (k:=4) rfl) (.cons ⟨t1,t3,t4⟩ (.cons (wl (k:=5) rfl) (.cons (wn h.2.2.2.2.2) .nil)))))))⟩
 | .my l w a,h=>by
  obtain⟨k,hk,hw⟩:=wu h.2.1
  exact .inl ⟨[0,k,5,0],.cons (wn h.1) (.cons hw (.cons (wl (k:=2) rfl) (.cons (wn h.2.2) .nil)))⟩
 | .bn l w a r,h=>by
  obtain⟨k,hk,hw⟩:=wu h.2.1
  exact .inl ⟨[0,k,5,6,0,8,0],.cons (wn h.1) (.cons hw (.cons (wl (k:=2) rfl) (.cons (wl (k:=3) rfl) (.cons (wn h.2.2.1) (.cons (wl (k:=5) rfl) (.cons (wn h.2.2.2) .nil))))))⟩
 | .pw l w a r,h=>by
  obtain⟨k,hk,hw⟩:=wu h.2.1
  exact .inl ⟨[0,k,7,0,9,0],.cons (wn h.1) (.cons hw (.cons (wl (k:=4) rfl) (.cons (wn h.2.2.1) (.cons (wl (k:=6) rfl) (.cons (wn h.2.2.2) .nil)))))⟩
 | .pt n [],h=>.inl ⟨_,.cons (wl (k:=9) rfl) (.cons (wn h.1) .nil)⟩
 | .pt n (x :: rs),h=>.inl ⟨_,.cons (wl (k:=9) rfl) (.cons (wn h.1) (.cons (wl (k:=10) rfl) (dX h.2.1)))⟩
 | .dn,_=>.inr rfl
theorem Ew.wk {e:Ew} (h:e.ok):∀x∈e.ws,Wk x∧x.length≤20:=by
 rcases Ew.P9 h with ⟨ks,w⟩ | rfl
 ·exact w.wk
 ·intro x hx
  simp only[Ew.ws,List.mem_cons,List.not_mem_nil,or_false] at hx
  subst hx
  exact⟨⟨by unfold asc;decide +kernel,by decide +kernel⟩,by decide +kernel⟩
theorem Ew.ne (e:Ew):e.ws≠[]:=by
 cases e with
 | pt n rs=>cases rs<;>simp [Ew.ws]
 | _=>simp [Ew.ws]
theorem Ew.xJ {e:Ew} (h:e.ok):xJ e.row=e.ws:=mE e.ne fun x hx=>(Ew.wk h x hx).1.nb
theorem vS:Ew.row .dn = "done":=by decide +kernel
theorem Ew.QI {e:Ew} (h:e.ok) (hn:e≠.dn):¬e.row = "done":=fun q=>by
 have e1:=Ew.xJ h
 have e2:My.xJ (Ew.row .dn)=(["done"]:List Str):=Ew.xJ (e:=.dn) True.intro
 rw[q,←vS,e2] at e1
 cases e with
 | dn=>exact hn rfl
 | pt n rs=>cases rs<;>simp [Ew.ws] at e1
 | _=>simp [Ew.ws] at e1
theorem Ew.takes {e:Ew} (h:e.ok) (fr:List Fr) (ls:List Str):vP fr ls e.row=e.take fr ls:=by
 unfold vP
 by_cases hd:e=.dn
 ·subst hd
  rw[if_pos vS]
  rfl
 rw[if_neg (Ew.QI h hd),Ew.xJ h]
 cases e with
 | dn=>exact absurd rfl hd
 | lt a b=>
  have r:=Kg h.1 h.2
  have f5:vk (Ew.lt a b).ws=none:=if_neg (kr (r.take 2) oo.2.2.2.2.2 jS.2.2.2.2.2 (by decide))
  have f6:ji (Ew.lt a b).ws=none:=eF r (by decide) (by decide) (by decide) (by decide)
  have f7:sf (Ew.lt a b).ws=some (a,b):=if_pos (p9 r oo.2.2.2.2.1 jS.2.2.2.2.1 (by decide))
  rw[f5]
  dsimp only
  rw[f6]
  dsimp only
  rw[f7]
  rfl
 | mu l w a n r'=>
  obtain⟨t1,t2,t3,t4⟩:=cX h.2.2.2.1 h.2.2.2.2.1
  have hw:ZO [0,0,4,0,7,1,8,0] (Ew.mu l w a n r').ws:=.cons (wn h.1) (.cons (wn h.2.1) (.cons (wl (k:=1) rfl) (.cons (wn h.2.2.1) (.cons (wl (k:=4) rfl) (.cons ⟨t1,t3,t4⟩ (.cons (wl (k:=5) rfl) (.cons (wn h.2.2.2.2.2) .nil)))))))
  have r:=hw.Yy
  have f5:vk (Ew.mu l w a n r').ws=none:=r.part (by decide)
  have f6:ji (Ew.mu l w a n r').ws=some (0,l,w,a,n,r'):=by
   unfold ji
   rw[if_pos (p9 r oo.1 jS.1 (by decide))]
   show some ((0:Int),l,w,a,vC (Str.ofString (toString n)),r')=_
   rw[t2]
  rw[f5]
  dsimp only
  rw[f6]
  rfl
 | my l w a=>
  obtain⟨k,hk,hu⟩:=wu h.2.1
  have hw:ZO [0,k,5,0] (Ew.my l w a).ws:=.cons (wn h.1) (.cons hu (.cons (wl (k:=2) rfl) (.cons (wn h.2.2) .nil)))
  have r:=hw.Yy
  have hdd:∀j,j=0∨j=3→(jr [0,j,5,0] fZ=false∧jr [0,j,5,0] gJ=true∧fQ [0,j,5,0]=false):=by
   rintro j (rfl | rfl)<;>decide
  obtain⟨d1,d2,d4⟩:=hdd k hk
  have f5:vk (Ew.my l w a).ws=none:=r.part d4
  have f6:ji (Ew.my l w a).ws=some ((1:Int),l,w,a,(0:Int),("" : Str)):=by
   unfold ji
   rw[if_neg (kr r oo.1 jS.1 d1),if_pos (p9 r oo.2.1 jS.2.1 d2)]
   rfl
  rw[f5]
  dsimp only
  rw[f6]
  rfl
 | bn l w a r'=>
  obtain⟨k,hk,hu⟩:=wu h.2.1
  have hw:ZO [0,k,5,6,0,8,0] (Ew.bn l w a r').ws:=.cons (wn h.1) (.cons hu (.cons (wl (k:=2) rfl) (.cons (wl (k:=3) rfl) (.cons (wn h.2.2.1) (.cons (wl (k:=5) rfl) (.cons (wn h.2.2.2) .nil))))))
  have r:=hw.Yy
  have hdd:∀j,j=0∨j=3→(jr [0,j,5,6,0,8,0] fZ=false∧jr [0,j,5,6,0,8,0] gJ=false∧jr [0,j,5,6,0,8,0] sP=true∧fQ [0,j,5,6,0,8,0]=false):=by
   rintro j (rfl | rfl)<;>decide
  obtain⟨d1,d2,d3,d4⟩:=hdd k hk
  have f5:vk (Ew.bn l w a r').ws=none:=r.part d4
  have f6:ji (Ew.bn l w a r').ws=some (2,l,w,a,0,r'):=by
   unfold ji
   rw[if_neg (kr r oo.1 jS.1 d1),if_neg (kr r oo.2.1 jS.2.1 d2),if_pos (p9 r oo.2.2.1 jS.2.2.1 d3)]
   rfl
  rw[f5]
  dsimp only
  rw[f6]
  rfl
 | pw l w a r'=>
  obtain⟨k,hk,hu⟩:=wu h.2.1
  have hw:ZO [0,k,7,0,9,0] (Ew.pw l w a r').ws:=.cons (wn h.1) (.cons hu (.cons (wl (k:=4) rfl) (.cons (wn h.2.2.1) (.cons (wl (k:=6) rfl) (.cons (wn h.2.2.2) .nil)))))
  have r:=hw.Yy
  have hdd:∀j,j=0∨j=3→(jr [0,j,7,0,9,0] fZ=false∧jr [0,j,7,0,9,0] gJ=false∧jr [0,j,7,0,9,0] sP=false∧jr [0,j,7,0,9,0] pW=true∧fQ [0,j,7,0,9,0]=false):=by
   rintro j (rfl | rfl)<;>decide
  obtain⟨d1,d2,d3,d5,d4⟩:=hdd k hk
  have f5:vk (Ew.pw l w a r').ws=none:=r.part d4
  have f6:ji (Ew.pw l w a r').ws=some (3,l,w,a,0,r'):=by
   unfold ji
   rw[if_neg (kr r oo.1 jS.1 d1),if_neg (kr r oo.2.1 jS.2.1 d2),if_neg (kr r oo.2.2.1 jS.2.2.1 d3),if_pos (p9 r oo.2.2.2.1 jS.2.2.2.1 d5)]
   rfl
  rw[f5]
  dsimp only
  rw[f6]
  rfl
 | pt n rs=>
  have f5:vk (Ew.pt n rs).ws=some (n,rs):=by
   cases rs with
   | nil=>
    have r:yC [12,0] (Ew.pt n []).ws:=Jc h.1
    unfold vk
    rw[if_pos (ou r (by decide)),if_pos (show (Ew.pt n []).ws.length=2 from rfl)]
    rfl
   | cons x rs=>
    have h3:ZO [12,0,13] ["part",n,"in"]:=.cons (wl (k:=9) rfl) (.cons (wn h.1) (.cons (wl (k:=10) rfl) .nil))
    have r:yC (p6 (x :: rs).length) (Ew.pt n (x :: rs)).ws:=h3.Yy.append (dX h.2.1).Yy
    have h2:(x :: rs).length≤12:=h.2.2
    have hpat:=Bx (x :: rs).length (by omega) (by simp)
    unfold Vd at hpat
    simp only[Bool.and_eq_true,Bool.not_eq_true'] at hpat
    have ha:wa (x :: rs) 12=true:=by
     unfold wa
     rw[decide_eq_true (show 1≤(x :: rs).length by simp),decide_eq_true (show ((x :: rs).length:Int)≤12 by omega)]
     exact List.all_eq_true.mpr h.2.1
    unfold vk
    have hl:¬(Ew.pt n (x :: rs)).ws.length=2:=by simp [Ew.ws]
    have hdr:(Ew.pt n (x :: rs)).ws.drop 3=x :: rs:=rfl
    rw[if_pos (ou r hpat.2),if_neg hl,hdr,if_neg (fun q=>q.elim (fun q=>q rfl) (fun q=>by rw[ha] at q;cases q))]
    rfl
  rw[f5]
  rfl
section
variable {P:Program} {w:World} {K:PySem.W.Frag} {mg:Str→Option Value} {base:Heap} {t:xj}
end
structure tM (ps as:List Str) (qK:List (Str × Str)):Prop where
 p1:1≤ps.length
 p2:ps.length≤4
 a1:1≤as.length
 a2:as.length≤6
 r1:1≤qK.length
 r2:qK.length≤12
 pn:∀x∈ps,qw x=true
 an:∀x∈as,qw x=true
 rn:∀mn∈qK,fV mn
 nd:(ps ++ as ++ qK.map (·.2)).Nodup
noncomputable def wD (mn:Str × Str):Str:=qQ [mn.1,mn.2]
noncomputable def rowsOf (ps as:List Str) (qK:List (Str × Str)) (evs:List Ew):List Str:=qQ ("parties" :: ps) :: qQ ("acts" :: as) :: (qK.map wD ++ evs.map Ew.row)
theorem yF {x:Str} {ns:List Str} (hx:x∈(["parties","acts"]:List Str)) (hn:∀y∈ns,qw y=true):xJ (qQ (x :: ns))=x :: ns:=by
 refine mE (by simp) fun y hy=>?_
 rcases List.mem_cons.mp hy with rfl | hy
 ·simp only[List.mem_cons,List.not_mem_nil,or_false] at hx
  rcases hx with rfl | rfl
  ·exact(sy _ (by simp)).1
  ·exact(sy _ (by simp)).1
 ·exact yg (hn y hy)
theorem aN {ns:List Str} (hn:∀y∈ns,qw y=true):ns.all qw=true:=List.all_eq_true.mpr hn
theorem vx {x:Str} {ns:List Str} {m:Int} (h1:1≤ns.length) (hn:∀y∈ns,qw y=true) (hm:(ns.length:Int)≤m):jV (x :: ns) x m=ns:=by
 unfold jV wa
 rw[List.drop_one,List.tail_cons,aN hn,decide_eq_true h1,show wd (x :: ns) 0=x from rfl,decide_eq_true hm,if_neg (by simp)]
theorem mJ:∀x∈jT,32∉x.cps.toList∧59∉x.cps.toList∧x.length≤4∧x≠"part"∧x≠"done":=by decide +kernel
theorem JB {mn:Str × Str} (h:fV mn):xJ (wD mn)=[mn.1,mn.2]:=by
 refine mE (by simp) fun y hy=>?_
 simp only[List.mem_cons,List.not_mem_nil,or_false] at hy
 rcases hy with rfl | rfl
 ·exact(mJ _ h.1).1
 ·exact yg h.2
theorem oX {mn:Str × Str} (h:fV mn):vG (xJ (wD mn))=some mn:=by
 rw[JB h]
 unfold vG
 rw[if_pos ⟨rfl,by rw[ma];exact decide_eq_true h.1,h.2⟩]
 rfl
theorem mS {e:Ew} (h:e.ok):vG (xJ e.row)=none:=by
 rw[Ew.xJ h]
 unfold vG
 refine if_neg fun q=>?_
 have hp:("part" : Str)∉jT:=by decide +kernel
 have two:∀{x y:Str} {r:List Str},1≤r.length→¬(x :: y :: r).length=2:=fun {x y r} h=>by simp only[List.length_cons];omega
 cases e with
 | pt n rs=>
  cases rs with
  | nil=>
   have:=q.2.1
   rw[ma] at this
   exact hp (of_decide_eq_true this)
  | cons x rs=>exact two (by simp) q.1
 | dn=>exact absurd q.1 (by simp [Ew.ws])
 | lt a b=>exact two (by simp) q.1
 | mu l w a n r=>exact two (by simp) q.1
 | my l w a=>exact two (by simp) q.1
 | bn l w a r=>exact two (by simp) q.1
 | pw l w a r=>exact two (by simp) q.1
theorem lJ {taken:List Str} {evs:List Ew} (he:∀e∈evs,e.ok):∀{qK found:List (Str × Str)},(∀mn∈qK,fV mn)→(taken ++ (found ++ qK).map (·.2)).Nodup→found ++ qK≠[]→found.length + qK.length≤12→
  jG taken found (qK.map wD ++ evs.map Ew.row)=.ok (found ++ qK)
 | [],found,_,_,hne,hf=>by
  rw[List.append_nil] at hne
  rw[List.map_nil,List.nil_append,List.append_nil]
  cases evs with
  | nil=>simp only[List.map_nil,jG,if_neg hne]
  | cons e r=>
   rw[List.map_cons,jG,mS (he e List.mem_cons_self)]
   dsimp only
   rw[if_neg hne]
 | mn :: r,found,hr,hnd,hne,hf=>by
  have e:found ++ mn :: r=(found ++ [mn]) ++ r:=by simp
  rw[e] at hnd hne
  rw[List.map_cons,List.cons_append,jG,oX (hr mn List.mem_cons_self)]
  dsimp only
  have hnd1:(taken ++ (found ++ [mn]).map (·.2)).Nodup:=by
   rw[List.map_append,←List.append_assoc] at hnd
   exact(List.nodup_append.mp hnd).1
  simp only[List.length_cons] at hf
  rw[if_neg (fun z=>z.elim (fun z=>by omega) (fun z=>z hnd1)),lJ he (fun x hx=>hr x (List.mem_cons_of_mem _ hx)) hnd hne (by rw[List.length_append];simp only[List.length_cons,List.length_nil];omega),e]
theorem Kx {ps as:List Str} {qK:List (Str × Str)} {evs:List Ew} (h:tM ps as qK) (he:∀e∈evs,e.ok) :
  xp (rowsOf ps as qK evs)=match Qn (rowsOf ps as qK evs).length (vh (2 + qK.length) (evs.map Ew.row) [("whole",[],[])] []) with
   | .error n=>.error n
   | .ok rw=>.ok (ps,as,qK,rw):=by
 have e0:xJ (wd (rowsOf ps as qK evs) 0)=("parties" : Str) :: ps:=yF (by simp) h.pn
 have e1:xJ (wd (rowsOf ps as qK evs) 1)=("acts" : Str) :: as:=yF (by simp) h.an
 have hlen:(rowsOf ps as qK evs).length=2 + qK.length + evs.length:=by unfold rowsOf;simp only[List.length_cons,List.length_append,List.length_map];omega
 have nd:=h.nd
 have nd2:(ps ++ as).Nodup:=(List.nodup_append.mp nd).1
 have nd1:ps.Nodup:=(List.nodup_append.mp nd2).1
 have h1:=h.p1;have h2:=h.p2;have h3:=h.a1;have h4:=h.a2;have h5:=h.r1;have h6:=h.r2
 have nps:ps≠[]:=fun z=>by rw[z] at h1;simp at h1
 have nas:as≠[]:=fun z=>by rw[z] at h3;simp at h3
 have nrm:qK≠[]:=fun z=>by rw[z] at h5;simp at h5
 have hn0:j0 (rowsOf ps as qK evs) 0 "parties" 4 []=some ps:=by
  unfold j0
  rw[if_neg (by omega),e0]
  dsimp only
  rw[vx h.p1 h.pn (by omega),if_neg (fun z=>z.elim nps (fun z=>z (by simpa using nd1)))]
 have hn1:j0 (rowsOf ps as qK evs) 1 "acts" 6 ps=some as:=by
  unfold j0
  rw[if_neg (by omega),e1]
  dsimp only
  rw[vx h.a1 h.an (by omega),if_neg (fun z=>z.elim nas (fun z=>z nd2))]
 have hrr:jG (ps ++ as) [] ((rowsOf ps as qK evs).drop 2)=.ok qK:=by
  have:=lJ (taken:=ps ++ as) (evs:=evs) he (qK:=qK) (found:=[]) h.rn (by simpa using nd) (by simpa using nrm) (by simpa using h6)
  simpa [rowsOf] using this
 have hdrop:(rowsOf ps as qK evs).drop (2 + qK.length)=evs.map Ew.row:=by
  unfold rowsOf
  rw[show 2 + qK.length=qK.length + 1 + 1 by omega,List.drop_succ_cons,List.drop_succ_cons]
  rw[show qK.length=(qK.map wD).length by rw[List.length_map],List.drop_left]
 unfold xp
 rw[hn0]
 dsimp only
 rw[hn1]
 dsimp only
 rw[hrr]
 dsimp only
 unfold pR
 rw[hdrop]
 all_goals (cases Qn (rowsOf ps as qK evs).length (vh (2 + qK.length) (evs.map Ew.row) [("whole",[],[])] [])<;>rfl)
noncomputable def iU:Nat→List Ew→List Fr→List Str→Except Nat (List Fr)
 | _,[],fr,_=>.ok fr
 | i,e :: r,fr,ls=>if i=90 then .error i else match e.take fr ls with
  | none=>.error i
  | some (fr',ls')=>iU (i + 1) r fr' ls'
theorem tN:∀{evs:List Ew} {i:Nat} {fr:List Fr} {ls:List Str},(∀e∈evs,e.ok)→vh i (evs.map Ew.row) fr ls=iU i evs fr ls
 | [],_,_,_,_=>rfl
 | e :: r,i,fr,ls,h=>by
  rw[List.map_cons,vh,iU,Ew.takes (h e List.mem_cons_self)]
  by_cases q:i=90
  ·rw[if_pos q,if_pos q]
  ·rw[if_neg q,if_neg q]
   cases e.take fr ls with
   | none=>rfl
   | some p=>exact tN fun x hx=>h x (List.mem_cons_of_mem _ hx)
noncomputable def bC:Ew→List Str
 | .mu l _ _ _ _=>[l]
 | .my l _ _=>[l]
 | .bn l _ _ _=>[l]
 | .pw l _ _ _=>[l]
 | .pt n _=>[n]
 | _=>[]
noncomputable def wY (evs:List Ew):List Str:=evs.flatMap bC
noncomputable def dp (d:Nat):Ew→Option Nat
 | .pt _ _=>if d < 6 then some (d + 1) else none
 | .dn=>if 0 < d then some (d - 1) else none
 | _=>some d
noncomputable def rG:Nat→List Ew→Option Nat
 | d,[]=>some d
 | d,e :: r=>(dp d e).bind fun d'=>rG d' r
theorem Ko {d d':Nat} {e:Ew} {fr:List Fr} {ls:List Str} (hd:dp d e=some d') (hf:fr.length=d + 1) (h6:d≤6) (hl:∀x∈bC e,x∉ls):∃fr',e.take fr ls=some (fr',ls ++ bC e)∧fr'.length=d' + 1∧d'≤6:=by
 cases e with
 | lt a b=>
  cases hd
  exact⟨push fr (.lt a b),by simp [Ew.take,bC],by rw[pY];exact hf,h6⟩
 | mu l w a n r=>
  cases hd
  exact⟨_,by rw[Ew.take,if_neg (hl l (by simp [bC]))];rfl,by rw[pY];exact hf,h6⟩
 | my l w a=>
  cases hd
  exact⟨_,by rw[Ew.take,if_neg (hl l (by simp [bC]))];rfl,by rw[pY];exact hf,h6⟩
 | bn l w a r=>
  cases hd
  exact⟨_,by rw[Ew.take,if_neg (hl l (by simp [bC]))];rfl,by rw[pY];exact hf,h6⟩
 | pw l w a r=>
  cases hd
  exact⟨_,by rw[Ew.take,if_neg (hl l (by simp [bC]))];rfl,by rw[pY];exact hf,h6⟩
 | pt n rs=>
  simp only[dp] at hd
  split at hd
  ·cases hd
   exact⟨_,by rw[Ew.take,if_neg (fun z=>z.elim (fun z=>by omega) (hl n (by simp [bC])))];rfl,by simp only[List.length_cons];omega,by omega⟩
  ·cases hd
 | dn=>
  simp only[dp] at hd
  split at hd
  ·cases hd
   match fr,hf with
   | [f],hf=>simp only[List.length_cons,List.length_nil] at hf;omega
   | (n,rs,rows) :: (n2,rs2,rows2) :: fr',hf=>
    exact⟨(n2,rs2,rows2 ++ [.pt n rs rows]) :: fr',by simp [Ew.take,bC],by simp only[List.length_cons] at hf ⊢;omega,by omega⟩
  ·cases hd
theorem iR:∀{evs:List Ew} {i d d':Nat} {fr:List Fr} {ls:List Str},rG d evs=some d'→fr.length=d + 1→d≤6→(ls ++ wY evs).Nodup→i + evs.length≤90→∃fr',iU i evs fr ls=.ok fr'∧fr'.length=d' + 1
 | [],i,d,d',fr,ls,h,hf,_,_,_=>by cases h;exact⟨fr,rfl,hf⟩
 | e :: r,i,d,d',fr,ls,h,hf,h6,hn,hi=>by
  rw[rG] at h
  cases hd:dp d e with
  | none=>rw[hd] at h;cases h
  | some d1=>
   rw[hd,Option.bind_some] at h
   have hn':((ls ++ bC e) ++ wY r).Nodup:=by
    have:wY (e :: r)=bC e ++ wY r:=by simp [wY]
    rw[this,←List.append_assoc] at hn
    exact hn
   have hl:∀x∈bC e,x∉ls:=fun x hx hs=>by
    have:=(List.nodup_append.mp hn').1
    exact(List.nodup_append.mp this).2.2 x hs x hx rfl
   obtain⟨fr1,e1,l1,s1⟩:=Ko hd hf h6 hl
   simp only[List.length_cons] at hi
   rw[iU,if_neg (by omega),e1]
   exact iR h l1 s1 hn' (by omega)
section
variable {P:Program} {w:World} {K:PySem.W.Frag} {mg:Str→Option Value} {base:Heap} {t:xj}
end
noncomputable def NN (c:Int):List Str:=(List.range 104).map fun (k:Nat)=>yU c k
theorem dq (c:Int):(NN c).length=104:=by unfold NN;rw[List.length_map,List.length_range]
theorem gr (c:Int) {i:Nat} (h:i < 104):(NN c).getD i "" = yU c i:=by
 unfold NN
 rw[List.getD_eq_getElem?_getD,List.getElem?_map,List.getElem?_range h]
 rfl
noncomputable def aS (H:Hp) (v:V):Ew→Prop
 | .lt a b=>∃p,v=.ref p∧H p=some (.tup [.str "let",.str a,.str b])
 | .mu l w a n r=>∃p,v=.ref p∧H p=some (.tup [.str "must",.str l,.str w,.str a,.int n,.str r])
 | .my l w a=>∃p,v=.ref p∧H p=some (.tup [.str "may",.str l,.str w,.str a])
 | .bn l w a r=>∃p,v=.ref p∧H p=some (.tup [.str "ban",.str l,.str w,.str a,.str r])
 | .pw l w a r=>∃p,v=.ref p∧H p=some (.tup [.str "power",.str l,.str w,.str a,.str r])
 | .pt n rs=>∃p q,v=.ref p∧H p=some (.tup [.str "part",.str n,.ref q])∧H q=some (.lst (rs.map V.str))
 | .dn=>∃p,v=.ref p∧H p=some (.tup [.str "done"])
theorem aS.same {H H':Hp} {v:V} {e:Ew} (h:aS H v e) (s:qf H H'):aS H' v e:=by
 cases e with
 | pt n rs=>obtain⟨p,q,e,h1,h2⟩:=h;exact⟨p,q,e,s _ _ h1,s _ _ h2⟩
 | lt a b=>obtain⟨p,e,h⟩:=h;exact⟨p,e,s _ _ h⟩
 | mu l w a n r=>obtain⟨p,e,h⟩:=h;exact⟨p,e,s _ _ h⟩
 | my l w a=>obtain⟨p,e,h⟩:=h;exact⟨p,e,s _ _ h⟩
 | bn l w a r=>obtain⟨p,e,h⟩:=h;exact⟨p,e,s _ _ h⟩
 | pw l w a r=>obtain⟨p,e,h⟩:=h;exact⟨p,e,s _ _ h⟩
 | dn=>obtain⟨p,e,h⟩:=h;exact⟨p,e,s _ _ h⟩
noncomputable def Z4 (l:Addr) (H:Hp) (v:V):Ew→Prop
 | .pt n rs=>∃p q,v=.ref p∧H p=some (.tup [.str "part",.str n,.ref q])∧H q=some (.lst (rs.map V.str))∧q≠l
 | e=>aS H v e
theorem Z4.ev {l:Addr} {H:Hp} {v:V} {e:Ew} (h:Z4 l H v e):aS H v e:=by
 cases e with
 | pt n rs=>obtain⟨p,q,e,h1,h2,_⟩:=h;exact⟨p,q,e,h1,h2⟩
 | _=>exact h
theorem Z4.same {l:Addr} {H H':Hp} {v:V} {e:Ew} (h:Z4 l H v e) (s:qf H H'):Z4 l H' v e:=by
 cases e with
 | pt n rs=>obtain⟨p,q,e,h1,h2,h3⟩:=h;exact⟨p,q,e,s _ _ h1,s _ _ h2,h3⟩
 | lt a b=>obtain⟨p,e,h⟩:=h;exact⟨p,e,s _ _ h⟩
 | mu l w a n r=>obtain⟨p,e,h⟩:=h;exact⟨p,e,s _ _ h⟩
 | my l w a=>obtain⟨p,e,h⟩:=h;exact⟨p,e,s _ _ h⟩
 | bn l w a r=>obtain⟨p,e,h⟩:=h;exact⟨p,e,s _ _ h⟩
 | pw l w a r=>obtain⟨p,e,h⟩:=h;exact⟨p,e,s _ _ h⟩
 | dn=>obtain⟨p,e,h⟩:=h;exact⟨p,e,s _ _ h⟩
theorem Z4.keeps {l:Addr} {H H':Hp} {v:V} {e:Ew} {xs:List V} (h:Z4 l H v e) (k:Keeps l H H') (el:H l=some (.lst xs)):Z4 l H' v e:=by
 have ne:∀{p:Addr} {ys:List V},H p=some (.tup ys)→H' p=some (.tup ys):=fun q=>k.look q (dI q el (by intro z;cases z))
 cases e with
 | pt n rs=>obtain⟨p,q,e,h1,h2,h3⟩:=h;exact⟨p,q,e,ne h1,k.look h2 h3,h3⟩
 | lt a b=>obtain⟨p,e,h⟩:=h;exact⟨p,e,ne h⟩
 | mu l w a n r=>obtain⟨p,e,h⟩:=h;exact⟨p,e,ne h⟩
 | my l w a=>obtain⟨p,e,h⟩:=h;exact⟨p,e,ne h⟩
 | bn l w a r=>obtain⟨p,e,h⟩:=h;exact⟨p,e,ne h⟩
 | pw l w a r=>obtain⟨p,e,h⟩:=h;exact⟨p,e,ne h⟩
 | dn=>obtain⟨p,e,h⟩:=h;exact⟨p,e,ne h⟩
noncomputable def Hz (lb:Str) (d:Nat) (e:Ew):Prop:=e.ok∧(bC e=[]∨bC e=[lb])∧(dp d e).isSome=true
noncomputable def aY (K:PySem.W.Frag):Sp:=fun vs H Q _=>∃(a:Addr) (c cell:Int) (lb:Str) (d:Nat),vs=[.ref a,.int cell,.str lb,.int d]∧jx K H a ((NN c).map V.str)∧0≤cell∧qw lb=true∧∀v e H',qf H H'→(∀l,H l≠none→Z4 l H' v e)→Hz lb d e→Q v H'
theorem aC:∀{ys:List V},(∀v∈ys,∃x,v=V.str x∧qw x=true)→∃xs:List Str,ys=xs.map V.str∧∀x∈xs,qw x=true
 | [],_=>⟨[],rfl,fun _ z=>(by cases z)⟩
 | y :: ys,h=>by
  obtain⟨x,rfl,hx⟩:=h y List.mem_cons_self
  obtain⟨xs,rfl,hs⟩:=aC fun v hv=>h v (List.mem_cons_of_mem _ hv)
  exact⟨x :: xs,rfl,fun z hz=>(List.mem_cons.mp hz).elim (fun e=>by rw[e];exact hx) (hs z)⟩
theorem i6 {ys:List V} (hl:ys.length=3) (h:∀(i:Nat) (v:V),i < 3→ys[i]?=some v→∃x,v=V.str x∧qw x=true):∃x0 x1 x2,ys=[x0,x1,x2].map V.str∧qw x0=true∧qw x1=true∧qw x2=true:=by
 match ys,hl with
 | [a,b,c],_=>
  obtain⟨x0,rfl,h0⟩:=h 0 a (by decide) rfl
  obtain⟨x1,rfl,h1⟩:=h 1 b (by decide) rfl
  obtain⟨x2,rfl,h2⟩:=h 2 c (by decide) rfl
  exact⟨x0,x1,x2,rfl,h0,h1,h2⟩
section
variable {P:Program} {w:World} {K:PySem.W.Frag} {mg:Str→Option Value} {base:Heap} {t:xj}
theorem kl:qV ["_law_names","_law_cell","_law_label","_law_depth","_law_what","_law_some","_law_who","_law_number","_law_many"] ["_law_names","_law_cell","_law_label","_law_depth"] (z7 xG):=⟨rfl,rfl,rfl,by decide +kernel,rfl,by decide +kernel,by decide +kernel⟩
set_option maxHeartbeats 400000 in
theorem iP (T:Txt K mg t):qW P w K mg base jW 2 t.pN t.pT ["_law_names","_law_cell","_law_label","_law_depth"] (aY K):=by
 have G_w_mix:qW P w K mg base jW 1 t.gj t.yA ["_law_cell","_law_k"] lX:=(pV T).mono (by decide)
 refine T.m6.fn.ok kl (fun vs H Q E h=>(by obtain⟨_,_,_,_,_,rfl,_⟩:=h;rfl)) (fun cdv A outer s H vs Q E hr h=>?_)
 obtain⟨a,c,cell,lb,d,rfl,hA,hc,hlb,k⟩:=h
 refine⟨_,(z8 (qi (i:=4) kl.nd rfl (Or.inl rfl) (qk qC (pv 1) z9))
   (z8 (mL (i:=5) (osc:=z7 xG) (N:=["_law_names","_law_cell","_law_label","_law_depth","_law_what","_law_some","_law_who","_law_number","_law_many"]) (names:=["_law_names","_law_cell"]) (qS:=[0,1]) rfl rfl rfl kl.nd ⟨rfl,by decide +kernel,by decide +kernel,by decide +kernel,rfl,rfl,by decide +kernel,by decide +kernel⟩ rfl rfl (yu rfl T.yS (z6 z9 qz)) (fun _ _ _=>(qJ (qu (K:=K) rfl) (pv 1) (qk qC (qZ G_w_mix hr rfl T.jd.mg T.jd.fn.kp T.jd.bd .nil qY (z6 (pv 2) (z6 (pv 0) qz))) z9) (fun _ _=>rfl))))
   (z8 (qi (i:=6) kl.nd rfl (Or.inl rfl) (qJ (qu (K:=K) rfl) (pv 5) z9 (fun _ _=>rfl)))
   (z8 (PS.join (qM (ql jk (qk qC (qZ G_w_mix hr rfl T.jd.mg T.jd.fn.kp T.jd.bd .nil qY (z6 (pv 1) (z6 z9 qz))) z9) z9 (qe _))
    (qx (qi (i:=6) kl.nd rfl (Or.inl rfl) qq)) qo))
   (z8 (qi (i:=7) kl.nd rfl (Or.inl rfl) (qk xk z9 (qk qC (qZ G_w_mix hr rfl T.jd.mg T.jd.fn.kp T.jd.bd .nil qY (z6 (pv 1) (z6 z9 qz))) z9)))
   (z8 (PS.join (qM (ql jk (qk qC (qZ G_w_mix hr rfl T.jd.mg T.jd.fn.kp T.jd.bd .nil qY (z6 (pv 1) (z6 z9 qz))) z9) z9 (qe _))
    (qx (qi (i:=7) kl.nd rfl (Or.inl rfl) (qk xk z9 (qk qC (qk uo (pv 1) z9) (qk fF (qk Wn z9 z9) z9))))) qo))
   (z8 (PS.join (qM (PW.pt (gX (PW.pt (vU (ql jk (pv 4) z9 (qe _)) (vI (ql jk (pv 4) z9 (qe _))))) (yh (ql ur (pv 3) z9 (qe _)))))
    (z8 (qi (i:=8) kl.nd rfl (Or.inl rfl) (qk qC (qZ G_w_mix hr rfl T.jd.mg T.jd.fn.kp T.jd.bd .nil qY (z6 (pv 1) (z6 z9 qz))) z9))
   (qx (qt (yz (z6 qq (z6 (pv 2) (z6 (mR (osc:=z7 xG) (N:=["_law_names","_law_cell","_law_label","_law_depth","_law_what","_law_some","_law_who","_law_number","_law_many"]) (names:=["_law_names","_law_cell"]) (qS:=[0,1]) rfl rfl rfl ⟨rfl,by decide +kernel,by decide +kernel,by decide +kernel,rfl,rfl,by decide +kernel,by decide +kernel⟩ (yu rfl T.yS (z6 (pv 8) qz)) (fun _ _ _=>(qJ (qu (K:=K) rfl) (pv 1) (qk qC (qZ G_w_mix hr rfl T.jd.mg T.jd.fn.kp T.jd.bd .nil qY (z6 (pv 2) (z6 (qk xk z9 (pv 0)) qz))) z9) (fun _ _=>rfl)))) qz))))))) qo))
   (z8 (PS.join (qM (PW.pt (gX (ql jk (pv 4) z9 (qe _)) (yh (ql ll (pv 3) z9 (qe _)))))
    (qx (qt (yz (z6 qq qz)))) qo))
   (z8 (qM (ql ur (pv 4) z9 (qe _))
    (qx (qt (yz (z6 qq (z6 (qJ (qu (K:=K) rfl) (pv 5) z9 (fun _ _=>rfl)) (z6 (qJ (qu (K:=K) rfl) (pv 5) z9 (fun _ _=>rfl)) qz)))))) qo)
   (z8 (qM (ql ur (pv 4) z9 (qe _))
    (qx (qt (yz (z6 qq (z6 (pv 2) (z6 (qJ (qu (K:=K) rfl) (pv 5) z9 (fun _ _=>rfl)) (z6 (qJ (qu (K:=K) rfl) (pv 5) z9 (fun _ _=>rfl)) (z6 (pv 7) (z6 (qJ (qu (K:=K) rfl) (pv 5) z9 (fun _ _=>rfl)) qz))))))))) qo)
   (z8 (qM (ql jk (pv 4) z9 (qe _))
    (qx (qt (yz (z6 qq (z6 (pv 2) (z6 (pv 6) (z6 (qJ (qu (K:=K) rfl) (pv 5) z9 (fun _ _=>rfl)) qz))))))) qo)
   (z8 (qM (ql jk (pv 4) z9 (qe _))
    (qx (qt (yz (z6 qq (z6 (pv 2) (z6 (pv 6) (z6 (qJ (qu (K:=K) rfl) (pv 5) z9 (fun _ _=>rfl)) (z6 (qJ (qu (K:=K) rfl) (pv 5) z9 (fun _ _=>rfl)) qz)))))))) qo)
   (qx (qt (yz (z6 qq (z6 (pv 2) (z6 (pv 6) (z6 (qJ (qu (K:=K) rfl) (pv 5) z9 (fun _ _=>rfl)) (z6 (qJ (qu (K:=K) rfl) (pv 5) z9 (fun _ _=>rfl)) qz)))))))))))))))))))),?_⟩
 have hN:=dq c
 have w0:0≤cell % 9:=Int.emod_nonneg _ (by decide)
 have w1:cell % 9 < 9:=Int.emod_lt_of_pos _ (by decide)
 walk_at "rd"
 refine gY fL (fun _ _ v=>∃x,v=V.str x∧qw x=true) (qp (by decide +kernel)) ?_ ?_
 ·intro i y H' Q' hy s' kk
  have hi:i < 3:=by
   have:=(List.getElem?_eq_some_iff.mp hy).1
   simpa using this
  have hy':y=V.int (0 + (i:Int)):=by
   rw[List.getElem?_map,List.getElem?_range (show i < (3:Int).toNat from hi)] at hy
   exact(Option.some.inj hy).symm
  subst hy'
  have x0:0≤wH cell (0 + (i:Int)) % 40:=Int.emod_nonneg _ (by decide)
  have x1:wH cell (0 + (i:Int)) % 40 < 40:=Int.emod_lt_of_pos _ (by decide)
  have hA':=s'.seq hA
  walk_at "rd"
  exact kk _ _ (qf.refl _) ⟨_,rfl,by rw[gr c (by omega)];exact gf c⟩
 intro l5 H1 ys s1 hl5 e1 hlen hp
 obtain⟨x0,x1,x2,rfl,g0,g1,g2⟩:=i6 (by simpa using hlen) fun i v hi hv=>hp i (V.int (0 + (i:Int))) v (by rw[List.getElem?_map,List.getElem?_range (show i < (3:Int).toNat from hi)];rfl) hv
 clear hp hlen
 have hA1:=s1.seq hA
 have ex0:rz ([x0,x1,x2].map V.str) 0=some (.str x0):=rfl
 have ex1:rz ([x0,x1,x2].map V.str) 1=some (.str x1):=rfl
 have ex2:rz ([x0,x1,x2].map V.str) 2=some (.str x2):=rfl
 have hX:jx K H1 l5 ([x0,x1,x2].map V.str):=jx.of e1
 refine⟨_,rfl,l5,_,_,_,rfl,rfl,hX,ex0,?_⟩
 refine⟨fun σ' H'=>(∃u,σ'=[some (.ref a),some (.int cell),some (.str lb),some (.int d),some (.int (cell % 9)),some (.ref l5),some (.str u),none,none]∧oE u∧H'=H1)∨False,?_,?_⟩
 ·walk_at "rd"
  refine jy (fun _=>?_) (fun _=>.inl ⟨_,rfl,.inl g0,rfl⟩)
  walk_at "rd"
  exact .inl ⟨_,rfl,.inr rfl,rfl⟩
 rintro σ' H2 (⟨u,rfl,hu,rfl⟩ | ⟨⟨⟩⟩)
 walk_at "rd"
 refine⟨fun σ' H'=>(∃n,σ'=[some (.ref a),some (.int cell),some (.str lb),some (.int d),some (.int (cell % 9)),some (.ref l5),some (.str u),some (.int n),none]∧1≤n∧n < 10 ^ 20∧H'=H2)∨False,?_,?_⟩
 ·walk_at "rd"
  refine jy (fun _=>?_) (fun _=>.inl ⟨_,rfl,?_,?_,rfl⟩)
  ·walk_at "rd"
   have e20:(10:Int) ^ (Int.toNat 20) - 1=99999999999999999999:=by decide +kernel
   have p0:=Int.emod_nonneg (cell * 48271) (show (99999999999999999999:Int)≠0 by decide)
   have p1:=Int.emod_lt_of_pos (cell * 48271) (show (0:Int) < 99999999999999999999 by decide)
   refine .inl ⟨_,rfl,?_,?_,rfl⟩
   ·show 1≤1 + cell * 48271 % (10 ^ (Int.toNat 20) - 1)
    rw[e20];omega
   ·show 1 + cell * 48271 % (10 ^ (Int.toNat 20) - 1) < 10 ^ 20
    rw[e20];omega
  ·show 1≤1 + wH cell 4 % 5
   omega
  ·show 1 + wH cell 4 % 5 < 10 ^ 20
   omega
 rintro σ' H3 (⟨n,rfl,n1,n2,rfl⟩ | ⟨⟨⟩⟩)
 refine⟨fun σ' H'=>(σ'=[some (.ref a),some (.int cell),some (.str lb),some (.int d),some (.int (cell % 9)),some (.ref l5),some (.str u),some (.int n),none]∧H'=H3)∨False,?_,?_⟩
 ·walk_at "rd"
  refine jy (fun _=>sv ?pa) (fun _=>?pb)
  case' pb=>
   walk_at "rd"
   refine jy (fun _=>?_) (fun _=>yR (.inl ⟨rfl,rfl⟩))
  all_goals
   walk_at "rd"
   refine jy (fun hd=>?_) (fun _=>.inl ⟨rfl,rfl⟩)
   have hd':(d:Int) < 6:=of_decide_eq_true hd
   have m0:0≤wH cell 6 % 13:=Int.emod_nonneg _ (by decide)
   have m1:wH cell 6 % 13 < 13:=Int.emod_lt_of_pos _ (by decide)
   walk_at "rd"
   generalize (wH cell 6 % 13)=m at *
   refine gY fL (fun _ _ v=>∃x,v=V.str x∧qw x=true) (qp (by rw[List.length_map,List.length_range];omega)) ?_ ?_
   ·intro i y H' Q' hy s' kk
    have hi:i < m.toNat:=by
     have:=(List.getElem?_eq_some_iff.mp hy).1
     simpa using this
    have hy':y=V.int (0 + (i:Int)):=by
     rw[List.getElem?_map,List.getElem?_range hi] at hy
     exact(Option.some.inj hy).symm
    subst hy'
    have x0:0≤wH cell (7 + (0 + (i:Int))) % 40:=Int.emod_nonneg _ (by decide)
    have x1:wH cell (7 + (0 + (i:Int))) % 40 < 40:=Int.emod_lt_of_pos _ (by decide)
    have hA':=s'.seq hA1
    walk_at "rd"
    exact kk _ _ (qf.refl _) ⟨_,rfl,by rw[gr c (by omega)];exact gf c⟩
   intro l6 H4 ys s4 hl6 e4 hlen hp
   obtain⟨xs,rfl,hxs⟩:=aC (ys:=ys) fun v hv=>by
    obtain⟨i,hi⟩:=List.mem_iff_getElem?.mp hv
    have hi':i < m.toNat:=by
     have:=(List.getElem?_eq_some_iff.mp hi).1
     rw[hlen] at this
     simpa using this
    exact hp i (V.int (0 + (i:Int))) v (by rw[List.getElem?_map,List.getElem?_range hi'];rfl) hi
   have hl':xs.length≤12:=by
    rw[List.length_map,List.length_map,List.length_range] at hlen
    omega
   walk_at "rd"
   intro q H6 s6 hq e6
   exact k (.ref q) (.pt lb xs) H6 ((s1.trans s4).trans s6) (fun l hl=>⟨q,l6,rfl,e6,s6 _ _ e4,fun z=>hl (by rw[←z];exact s1.free hl6)⟩) ⟨⟨hlb,hxs,hl'⟩,.inr rfl,by simp only[dp];rw[if_pos (by omega)];rfl⟩
 rintro σ' H4 (⟨rfl,rfl⟩ | ⟨⟨⟩⟩)
 refine⟨fun σ' H'=>(σ'=[some (.ref a),some (.int cell),some (.str lb),some (.int d),some (.int (cell % 9)),some (.ref l5),some (.str u),some (.int n),none]∧H'=H4)∨False,?_,?_⟩
 ·walk_at "rd"
  refine jy (fun _=>?_) (fun _=>yR (.inl ⟨rfl,rfl⟩))
  walk_at "rd"
  refine jy (fun hd=>?_) (fun _=>.inl ⟨rfl,rfl⟩)
  have hd':0 < (d:Int):=of_decide_eq_true hd
  walk_at "rd"
  intro q H6 s6 hq e6
  exact k (.ref q) .dn H6 (s1.trans s6) (fun _ _=>⟨q,rfl,e6⟩) ⟨True.intro,.inl rfl,by simp only[dp];rw[if_pos (by omega)];rfl⟩
 rintro σ' H5 (⟨rfl,rfl⟩ | ⟨⟨⟩⟩)
 walk_at "rd"
 refine jy (fun _=>?_) (fun _=>?_)
 ·walk_at "rd"
  intro q H6 s6 hq e6
  exact k (.ref q) (.lt x0 x1) H6 (s1.trans s6) (fun _ _=>⟨q,rfl,e6⟩) ⟨⟨g0,g1⟩,.inl rfl,rfl⟩
 walk_at "rd"
 refine jy (fun _=>?_) (fun _=>?_)
 ·walk_at "rd"
  intro q H6 s6 hq e6
  exact k (.ref q) (.mu lb x0 x1 n x2) H6 (s1.trans s6) (fun _ _=>⟨q,rfl,e6⟩) ⟨⟨hlb,g0,g1,n1,n2,g2⟩,.inr rfl,rfl⟩
 walk_at "rd"
 refine jy (fun _=>?_) (fun _=>?_)
 ·walk_at "rd"
  intro q H6 s6 hq e6
  exact k (.ref q) (.my lb u x1) H6 (s1.trans s6) (fun _ _=>⟨q,rfl,e6⟩) ⟨⟨hlb,hu,g1⟩,.inr rfl,rfl⟩
 walk_at "rd"
 refine jy (fun _=>?_) (fun _=>?_)
 ·walk_at "rd"
  intro q H6 s6 hq e6
  exact k (.ref q) (.bn lb u x1 x2) H6 (s1.trans s6) (fun _ _=>⟨q,rfl,e6⟩) ⟨⟨hlb,hu,g1,g2⟩,.inr rfl,rfl⟩
 walk_at "rd"
 intro q H6 s6 hq e6
 exact k (.ref q) (.pw lb u x1 x2) H6 (s1.trans s6) (fun _ _=>⟨q,rfl,e6⟩) ⟨⟨hlb,hu,g1,g2⟩,.inr rfl,rfl⟩
end
structure u6 (evs:List Ew):Prop where
 ok:∀e∈evs,e.ok
 dp:rG 0 evs=some 0
 nd:(wY evs).Nodup
 len:evs.length≤66
theorem cf:∀{e1 e2:List Ew} {d:Nat},rG d (e1 ++ e2)=(rG d e1).bind fun d'=>rG d' e2
 | [],_,_=>rfl
 | e :: r,e2,d=>by
  rw[List.cons_append,rG,rG]
  cases dp d e with
  | none=>rfl
  | some d'=>exact cf (e1:=r)
theorem YJ {d d':Nat} {e:Ew} (h:dp d e=some d') (h6:d≤6):d'≤6:=by
 cases e with
 | pt n rs=>
  simp only[dp] at h
  split at h
  ·cases h;omega
  ·cases h
 | dn=>
  simp only[dp] at h
  split at h
  ·cases h;omega
  ·cases h
 | _=>cases h;exact h6
theorem Ql:∀(d:Nat),rG d (List.replicate d Ew.dn)=some 0
 | 0=>rfl
 | d + 1=>by
  rw[List.replicate_succ,rG,dp,if_pos (by omega)]
  exact Ql d
theorem dh (e1 e2:List Ew):wY (e1 ++ e2)=wY e1 ++ wY e2:=by unfold wY;rw[List.flatMap_append]
theorem nH:∀(d:Nat),wY (List.replicate d Ew.dn)=[]
 | 0=>rfl
 | d + 1=>by
  rw[List.replicate_succ]
  show bC Ew.dn ++ wY (List.replicate d Ew.dn)=[]
  rw[nH d];rfl
theorem Paired.app {α β:Type} {F:α→β→Prop}:∀{a a':List α} {b b':List β},Paired F a b→Paired F a' b'→Paired F (a ++ a') (b ++ b')
 | [],_,[],_,_,h=>h
 | _ :: _,_,_ :: _,_,.cons h t,q=>.cons h (Paired.app t q)
theorem uZ {α β:Type} {F:α→β→Prop} {a:α} {b:β} (h:F a b):∀n,Paired F (List.replicate n a) (List.replicate n b)
 | 0=>.nil
 | n + 1=>.cons h (uZ h n)
noncomputable def kw:Ew→Str
 | .lt _ _=>"let"
 | .mu _ _ _ _ _=>"must"
 | .my _ _ _=>"may"
 | .bn _ _ _ _=>"ban"
 | .pw _ _ _ _=>"power"
 | .pt _ _=>"part"
 | .dn=>"done"
theorem aS.first {H:Hp} {v:V} {e:Ew} (h:aS H v e):∃p xs,v=.ref p∧H p=some (.tup xs)∧rz xs 0=some (.str (kw e)):=by
 cases e with
 | pt n rs=>obtain⟨p,q,e,h1,h2⟩:=h;exact⟨p,_,e,h1,rfl⟩
 | lt a b=>obtain⟨p,e,h⟩:=h;exact⟨p,_,e,h,rfl⟩
 | mu l w a n r=>obtain⟨p,e,h⟩:=h;exact⟨p,_,e,h,rfl⟩
 | my l w a=>obtain⟨p,e,h⟩:=h;exact⟨p,_,e,h,rfl⟩
 | bn l w a r=>obtain⟨p,e,h⟩:=h;exact⟨p,_,e,h,rfl⟩
 | pw l w a r=>obtain⟨p,e,h⟩:=h;exact⟨p,_,e,h,rfl⟩
 | dn=>obtain⟨p,e,h⟩:=h;exact⟨p,_,e,h,rfl⟩
noncomputable def Fy (b:Bool):Int:=if b=true then 1 else 0
theorem YF {d d':Nat} {e:Ew} (h:dp d e=some d'):(d:Int) + (if decide (V.str (kw e)=V.str (Str.ofString "part"))=true then (1:Int) else 0) - (if decide (V.str (kw e)=V.str (Str.ofString "done"))=true then (1:Int) else 0)=(d':Nat):=by
 have k1:∀x∈(["let","must","may","ban","power"]:List Str),¬x = "part"∧¬x = "done":=by decide +kernel
 have k2:¬("part" : Str) = "done":=by decide +kernel
 have none:∀{x:Str},x∈(["let","must","may","ban","power"]:List Str)→(d:Int) + (if decide (V.str x=V.str (Str.ofString "part"))=true then (1:Int) else 0) - (if decide (V.str x=V.str (Str.ofString "done"))=true then (1:Int) else 0)=d:=fun {x} hx=>by
  have h1:¬V.str x=V.str (Str.ofString "part"):=fun z=>(k1 x hx).1 (V.str.inj z)
  have h2:¬V.str x=V.str (Str.ofString "done"):=fun z=>(k1 x hx).2 (V.str.inj z)
  rw[decide_eq_false h1,decide_eq_false h2];simp
 cases e with
 | pt n rs=>
  simp only[dp] at h
  split at h
  ·cases h
   have h2:¬V.str (kw (.pt n rs))=V.str (Str.ofString "done"):=fun z=>k2 (V.str.inj z)
   rw[decide_eq_false h2,decide_eq_true (show V.str (kw (.pt n rs))=V.str (Str.ofString "part") from rfl)]
   simp
  ·cases h
 | dn=>
  simp only[dp] at h
  split at h
  ·cases h
   have h2:¬V.str (kw .dn)=V.str (Str.ofString "part"):=fun z=>k2 (V.str.inj z).symm
   rw[decide_eq_false h2,decide_eq_true (show V.str (kw .dn)=V.str (Str.ofString "done") from rfl)]
   simp;omega
  ·cases h
 | lt a b=>cases h;exact none (by simp [kw])
 | mu l w a n r=>cases h;exact none (by simp [kw])
 | my l w a=>cases h;exact none (by simp [kw])
 | bn l w a r=>cases h;exact none (by simp [kw])
 | pw l w a r=>cases h;exact none (by simp [kw])
theorem sN {α:Type} (x:α):∀n:Nat,(List.replicate n [x]).flatten=List.replicate n x
 | 0=>rfl
 | n + 1=>by rw[List.replicate_succ,List.flatten_cons,sN x n];rfl
theorem nI {c:Int} {I:List Nat} (h:I.Nodup) (hb:∀i∈I,i < 208):(I.map fun (i:Nat)=>yU c (i:Int)).Nodup:=by
 induction I with
 | nil=>simp
 | cons a r ih=>
  rw[List.nodup_cons] at h
  (rw[List.map_cons,List.nodup_cons])
  refine⟨fun hm=>?_,ih h.2 fun i hi=>hb i (List.mem_cons_of_mem _ hi)⟩
  obtain⟨b,hbm,e⟩:=List.mem_map.mp hm
  have ha:=hb a List.mem_cons_self
  have hb':=hb b (List.mem_cons_of_mem _ hbm)
  have:=Wb (c:=c) (k1:=b) (k2:=a) (by omega) (by omega) e
  exact h.1 (by rw[show a=b by omega];exact hbm)
noncomputable def oM (K:PySem.W.Frag):Sp:=fun vs H Q _=>∃(a b:Addr) (c:Int) (ns:List Int),vs=[.ref a,.ref b]∧jx K H a ((NN c).map V.str)∧jx K H b (ns.map V.int)∧ns.length≤63∧∀l H' ws evs,qf H H'→H l=none→H' l=some (.lst ws)→Paired (aS H') ws evs→u6 evs→Q (.ref l) H'
section
variable {P:Program} {w:World} {K:PySem.W.Frag} {mg:Str→Option Value} {base:Heap} {t:xj}
theorem kn:qV ["_law_names","_law_script","_law_base","_law_events_here","_law_depth","_law_number","_law_event_here"] ["_law_names","_law_script"] (z7 xA):=⟨rfl,rfl,rfl,by decide +kernel,rfl,by decide +kernel,by decide +kernel⟩
set_option maxHeartbeats 400000 in
theorem ow (T:Txt K mg t):qW P w K mg base jW 3 t.bt t.bc ["_law_names","_law_script"] (oM K):=by
 have G_w_cell_at:qW P w K mg base jW 2 t.wK t.wQ ["_law_script","_law_k"] (iN K):=(mU T).mono (by decide)
 have G_w_event:qW P w K mg base jW 2 t.pN t.pT ["_law_names","_law_cell","_law_label","_law_depth"] (aY K):=(iP T).mono (by decide)
 refine T.pD.fn.ok kn (fun vs H Q E h=>(by obtain⟨_,_,_,_,rfl,_⟩:=h;rfl)) (fun cdv A outer s H vs Q E hr h=>?_)
 obtain⟨a,b,c,ns,rfl,hA,hS,hl,k⟩:=h
 refine⟨_,(z8 (qi (i:=2) kn.nd rfl (Or.inl rfl) (qk uo (qk qC (qZ G_w_cell_at hr rfl T.jl.mg T.jl.fn.kp T.jl.bd .nil qY (z6 (pv 1) (z6 z9 qz))) z9) z9))
   (z8 (qi (i:=3) kn.nd rfl (Or.inl rfl) (qO qz) p8)
   (z8 (qi (i:=4) kn.nd rfl (Or.inl rfl) z9)
   (z8 (fM PassesOwn.never rfl (yu rfl T.yS (z6 (qG (jv (K:=K) rfl) rfl T.kf PySem.boot_len (z6 (jN (j4 (K:=K) rfl) (pv 1) (jE z9) (jE z9)) qz)) qz)) (xR (i:=5) kn.nd rfl (Or.inl rfl))
    (z8 (qi (i:=6) kn.nd rfl (Or.inl rfl) (qZ G_w_event hr rfl T.m6.mg T.m6.fn.kp T.m6.bd .nil qY (z6 (pv 0) (z6 (qZ G_w_cell_at hr rfl T.jl.mg T.jl.fn.kp T.jl.bd .nil qY (z6 (pv 1) (z6 (qk xk z9 (pv 5)) qz))) (z6 (qJ (qu (K:=K) rfl) (pv 0) (qk xk (pv 2) (pv 5)) (fun _ _=>rfl)) (z6 (pv 4) qz))))))
   (z8 (qi (i:=4) kn.nd rfl (Or.inl rfl) (qk fF (qk xk (pv 4) (jI yd rfl T.fO PyProof.Rows.boot_int (z6 (kX jk (qJ (jg (K:=K) rfl) (pv 6) z9 (fun _ _=>rfl)) qq (qe _)) qz))) (jI yd rfl T.fO PyProof.Rows.boot_int (z6 (kX jk (qJ (jg (K:=K) rfl) (pv 6) z9 (fun _ _=>rfl)) qq (qe _)) qz))))
   (qx (kK (vw PySem.F.plainAttrs_list PySem.F.slot_list_append PySem.F.type_list_append vO (pv 3) (z6 (pv 6) qz)))))))
   (qx (qt (qk xU (pv 3) (qk Q5 (qO (z6 (yz (z6 qq qz)) qz)) (pv 4))))))))),?_⟩
 have hN:=dq c
 refine⟨_,rfl,b,2,ns,rfl,hS,by decide,?_⟩
 have b0:0≤wZ ns 2 % 2:=Int.emod_nonneg _ (by decide)
 have b1:wZ ns 2 % 2 < 2:=Int.emod_lt_of_pos _ (by decide)
 obtain⟨bs,ebs,hbs⟩:∃bs:Nat,wZ ns 2 % 2 * 22=bs∧bs≤22:=⟨(wZ ns 2 % 2 * 22).toNat,by omega,by omega⟩
 walk_at "rd"
 intro le H1 s1 hle e1
 walk_at "rd"
 intro l2 H2 s2 hl2 e2
 refine⟨l2,_,rfl,.inl (jx.of e2),?_⟩
 have hcl:(bE (ns.map V.int) (some 3) (some 63)).length≤60:=by
  show (bE (ns.map V.int) (some ((3:Nat):Int)) (some ((63:Nat):Int))).length≤60
  unfold bE
  rw[HT.pA,HT.pA,List.length_take,List.length_drop,List.length_map]
  omega
 generalize hm:(bE (ns.map V.int) (some 3) (some 63)).length=m at *
 refine⟨_,rfl,by omega,by omega,?_⟩
 have emt:((m:Int)).toNat=m:=Int.toNat_natCast m
 rw[emt]
 refine pO (lo:=0) (n:=m) (fun i σ H'=>∃(ws:List V) (evs:List Ew) (I:List Nat) (d:Nat) (v5 v6:Option V),σ=[some (.ref a),some (.ref b),some (.int bs),some (.ref le),some (.int d),v5,v6]∧qf H H'∧H' le=some (.lst ws)∧Paired (Z4 le H') ws evs∧(∀e∈evs,e.ok)∧rG 0 evs=some d∧d≤6∧evs.length=i∧wY evs=I.map (fun (j:Nat)=>yU c (j:Int))∧I.Nodup∧∀x∈I,x < bs + i)
  ⟨[],[],[],0,none,none,by rw[←ebs];rfl,s1.trans s2,s2 _ _ e1,.nil,fun _ z=>(by cases z),rfl,by omega,rfl,rfl,by simp,fun _ z=>(by cases z)⟩ ?_ ?_
 ·rintro i σ H3 hi ⟨ws,evs,I,d,v5,v6,rfl,s3,e3,hP,jw,hdp,h6,hlen,hlab,hnd,hI⟩
  have hA3:=s3.seq hA
  have hS3:=s3.seq hS
  have hm':i < m:=by omega
  walk_at "rd"
  refine⟨b,3 + (0 + (i:Int)),ns,rfl,hS3,by omega,?_⟩
  have hix:rz ((NN c).map V.str) ((bs:Int) + (0 + (i:Int)))=some (.str (yU c ((bs + i:Nat):Int))):=by
   rw[yl (by omega) (by omega),show ((bs:Int) + (0 + (i:Int))).toNat=bs + i by omega,gr c (by omega)]
  refine⟨_,rfl,_,rfl,_,rfl,_,_,rfl,rfl,a,_,_,_,rfl,rfl,hA3,hix,?_⟩
  refine⟨_,rfl,a,c,_,_,d,rfl,hA3,(Xw ns _).1,gf c,fun v e H4 s4 he hg=>?_⟩
  obtain⟨g1,g2,g3⟩:=hg
  obtain⟨d',ed⟩:=Option.isSome_iff_exists.mp g3
  have hF:Z4 le H4 v e:=he le (by rw[e3];intro z;cases z)
  obtain⟨p,xs,rfl,ep,ex⟩:=hF.ev.first
  refine⟨_,rfl,_,rfl,p,_,_,_,rfl,rfl,fz.of ep,ex,?_⟩
  walk_at "rd"
  refine .inr ⟨_,rfl,?_⟩
  walk_at "rd"
  refine⟨p,_,_,_,rfl,rfl,fz.of ep,ex,?_⟩
  walk_at "rd"
  refine .inr ⟨_,rfl,?_⟩
  walk_at "rd"
  have e4:=s4 _ _ e3
  refine⟨le,_,_,rfl,rfl,e4,qp (by have:=Paired.length hP;omega),?_⟩
  intro H5 k5 e5
  have sB:qf H H5:=k5.put (s3.trans s4) hle
  have hd6:d'≤6:=YJ ed h6
  refine⟨ws ++ [.ref p],evs ++ [e],if bC e=[] then I else I ++ [bs + i],d',_,_,by rw[←YF ed];rfl,sB,e5,Paired.snoc (Paired.imp' (fun _ _ z=>(z.same s4).keeps k5 e4) hP) (hF.keeps k5 e4),fun x hx=>?_,by rw[cf,hdp];show (dp d e).bind _=_;rw[ed];rfl,hd6,by rw[List.length_append,hlen];rfl,?_,?_,fun x hx=>?_⟩
  ·(rcases List.mem_append.mp hx with hx | hx)
   ·exact jw x hx
   ·rw[List.mem_singleton.mp hx];exact g1
  ·rw[dh,hlab]
   have e1:wY [e]=bC e:=by simp [wY]
   rw[e1]
   rcases g2 with g2 | g2
   ·rw[if_pos g2,g2,List.append_nil]
   ·rw[if_neg (by rw[g2];simp),g2,List.map_append];rfl
  ·split
   ·exact hnd
   ·rw[List.nodup_append]
    exact⟨hnd,by simp,fun x hx y hy z=>by have:=hI x hx;rw[List.mem_singleton.mp hy] at z;omega⟩
  ·split at hx
   ·have:=hI x hx;omega
   ·(rcases List.mem_append.mp hx with hx | hx)
    ·have:=hI x hx;omega
    ·rw[List.mem_singleton.mp hx];omega
 ·rintro σ H3 ⟨ws,evs,I,d,v5,v6,rfl,s3,e3,hP,jw,hdp,h6,hlen,hlab,hnd,hI⟩
  walk_at "rd"
  intro tq H4 s4 htq e4
  walk_at "rd"
  intro lq H5 s5 hlq e5
  refine⟨_,rfl,lq,(d:Int),_,rfl,rfl,e5,by omega,by omega,qp (by simp only[List.length_cons,List.length_nil,Int.toNat_natCast];omega),fun q hq=>?_⟩
  have s6:qf H5 (upd H5 q (.lst (List.replicate ((d:Nat):Int).toNat [V.ref tq]).flatten)):=qf.nN hq
  have hwl:ws.length=evs.length:=Paired.length hP
  refine⟨le,q,_,_,rfl,rfl,s6 _ _ (s5 _ _ (s4 _ _ e3)),qr,qp (by rw[len_rep];simp only[List.length_cons,List.length_nil,Int.toNat_natCast];omega),?_⟩
  intro l7 H7 s7 hl7 e7
  have sA:=(((s3.trans s4).trans s5).trans s6).trans s7
  rw[Int.toNat_natCast,sN] at e7
  refine k l7 H7 _ (evs ++ List.replicate d .dn) sA ((((s3.trans s4).trans s5).trans s6).free hl7) e7 (Paired.app (Paired.imp' (fun _ _ z=>(z.ev).same (((s4.trans s5).trans s6).trans s7)) hP) (uZ (show aS H7 (.ref tq) .dn from ⟨tq,rfl,((s5.trans s6).trans s7) _ _ e4⟩) d)) ⟨fun e he=>?_,?_,?_,?_⟩
  ·(rcases List.mem_append.mp he with he | he)
   ·exact jw e he
   ·rw[(List.mem_replicate.mp he).2];exact True.intro
  ·rw[cf,hdp];exact Ql d
  ·rw[dh,nH,List.append_nil,hlab];exact nI hnd fun x hx=>by have:=hI x hx;omega
  ·rw[List.length_append,List.length_replicate];omega
end
theorem eM {α:Type} (f:α→V) (xs:List α) (n m:Nat) (h:n + m≤xs.length):bE (xs.map f) (some (n:Int)) (some ((n + m:Nat):Int))=((xs.drop n).take m).map f:=by
 unfold bE
 rw[HT.pA,HT.pA,List.length_map,Nat.min_eq_left (show n≤xs.length by omega),Nat.min_eq_left (show n + m≤xs.length from h),←List.map_drop,←List.map_take,Nat.add_sub_cancel_left]
theorem Z7 (c:Int) {n m:Nat} (h:n + m≤104):((NN c).drop n).take m=(List.range m).map fun (j:Nat)=>yU c ((n + j:Nat):Int):=by
 apply List.ext_getElem?
 intro i
 by_cases q:i < m
 ·rw[List.getElem?_take_of_lt q,List.getElem?_drop,List.getElem?_map,List.getElem?_range q]
  unfold NN
  rw[List.getElem?_map,List.getElem?_range (by omega)]
  rfl
 ·rw[List.getElem?_eq_none_iff.mpr (by rw[List.length_take];omega),List.getElem?_eq_none_iff.mpr (by rw[List.length_map,List.length_range];omega)]
structure B9 (c:Int) (ps as:List Str) (qK:List (Str × Str)):Prop where
 hd:tM ps as qK
 ps:ps=(List.range ps.length).map fun (j:Nat)=>yU c (j:Int)
 as:as=(List.range as.length).map fun (j:Nat)=>yU c ((4 + j:Nat):Int)
 qK:qK.map (·.2)=(List.range qK.length).map fun (j:Nat)=>yU c ((10 + j:Nat):Int)
theorem QJ (c:Int) {n0 n1 n2:Nat} (h0:n0≤4) (h1:n1≤6) (h2:n2≤12):((List.range n0).map (fun (j:Nat)=>yU c (j:Int)) ++ (List.range n1).map (fun (j:Nat)=>yU c ((4 + j:Nat):Int)) ++ (List.range n2).map (fun (j:Nat)=>yU c ((10 + j:Nat):Int))).Nodup:=by
 have:=nI (c:=c) (I:=List.range n0 ++ (List.range n1).map (4 + ·) ++ (List.range n2).map (10 + ·)) ?_ ?_
 ·rw[List.map_append,List.map_append,List.map_map,List.map_map] at this
  exact this
 ·rw[List.nodup_append,List.nodup_append]
  refine⟨⟨List.nodup_range,?_,?_⟩,?_,?_⟩
  ·exact List.Pairwise.map _ (fun a b h z=>h (by omega)) List.nodup_range
  ·intro x hx y hy z
   obtain⟨j,_,rfl⟩:=List.mem_map.mp hy
   have:=List.mem_range.mp hx
   omega
  ·exact List.Pairwise.map _ (fun a b h z=>h (by omega)) List.nodup_range
  ·intro x hx y hy z
   obtain⟨j,_,rfl⟩:=List.mem_map.mp hy
   (rcases List.mem_append.mp hx with hx | hx)
   ·have:=List.mem_range.mp hx;omega
   ·obtain⟨j',hj',rfl⟩:=List.mem_map.mp hx
    have:=List.mem_range.mp hj'
    omega
 ·intro x hx
  (rcases List.mem_append.mp hx with hx | hx)
  ·(rcases List.mem_append.mp hx with hx | hx)
   ·have:=List.mem_range.mp hx;omega
   ·obtain⟨j',hj',rfl⟩:=List.mem_map.mp hx
    have:=List.mem_range.mp hj'
    omega
  ·obtain⟨j',hj',rfl⟩:=List.mem_map.mp hx
   have:=List.mem_range.mp hj'
   omega
theorem dt (c k:Int):(yU c k).length≤8:=(kJ (gf c)).2.1
noncomputable def Z6 (H:Hp) (p:Addr) (ps as:List Str) (qK:List (Str × Str)):Prop:=∃lp la lr vs,H p=some (.tup [.ref lp,.ref la,.ref lr])∧H lp=some (.lst (ps.map V.str))∧H la=some (.lst (as.map V.str))∧H lr=some (.lst vs)∧Paired (vR H) vs qK
theorem Z6.same {H H':Hp} {p:Addr} {ps as:List Str} {qK:List (Str × Str)} (h:Z6 H p ps as qK) (s:qf H H'):Z6 H' p ps as qK:=by
 obtain⟨lp,la,lr,vs,h1,h2,h3,h4,h5⟩:=h
 exact⟨lp,la,lr,vs,s _ _ h1,s _ _ h2,s _ _ h3,s _ _ h4,Paired.imp' (fun _ _ z=>z.same s) h5⟩
noncomputable def JQ (K:PySem.W.Frag):Sp:=fun vs H Q _=>∃(a:Addr) (c cell:Int),vs=[.ref a,.int cell]∧jx K H a ((NN c).map V.str)∧0≤cell∧∀ps as qK p H',B9 c ps as qK→qf H H'→H p=none→Z6 H' p ps as qK→Q (.ref p) H'
noncomputable def HR:List Str:=["calm","sore","end"]
theorem YC:∀j < 3,HR.getD j ""∈jT:=by decide +kernel
section
variable {P:Program} {w:World} {K:PySem.W.Frag} {mg:Str→Option Value} {base:Heap} {t:xj}
theorem wC:qV ["_law_names","_law_cell","_law_parties","_law_acts","_law_rooms","_law_k"] ["_law_names","_law_cell"] (z7 x4):=⟨rfl,rfl,rfl,by decide +kernel,rfl,by decide +kernel,by decide +kernel⟩
set_option maxHeartbeats 400000 in
theorem oy (T:Txt K mg t):qW P w K mg base jW 2 t.bo t.bu ["_law_names","_law_cell"] (JQ K):=by
 have G_w_mix:qW P w K mg base jW 1 t.gj t.yA ["_law_cell","_law_k"] lX:=(pV T).mono (by decide)
 refine T.pC.fn.ok wC (fun vs H Q E h=>(by obtain⟨_,_,_,rfl,_⟩:=h;rfl)) (fun cdv A outer s H vs Q E hr h=>?_)
 obtain⟨a,c,cell,rfl,hA,hc,k⟩:=h
 refine⟨_,(z8 (qi (i:=2) wC.nd rfl (Or.inl rfl) (jN (j4 (K:=K) rfl) (pv 0) kg (jE (qk xk z9 (qk qC (pv 1) z9)))))
   (z8 (qi (i:=3) wC.nd rfl (Or.inl rfl) (jN (j4 (K:=K) rfl) (pv 0) (jE z9) (jE (qk xk z9 (qk qC (qk kL (pv 1) z9) z9)))))
   (z8 (qi (i:=4) wC.nd rfl (Or.inl rfl) (qO qz) p8)
   (z8 (fM PassesOwn.never rfl (yu rfl T.yS (z6 (qk xk z9 (qk qC (qk kL (pv 1) z9) z9)) qz)) (xR (i:=5) wC.nd rfl (Or.inl rfl))
    (qx (kK (vw PySem.F.plainAttrs_list PySem.F.slot_list_append PySem.F.type_list_append vO (pv 4) (z6 (yz (z6 (qJ (qu (K:=K) rfl) (qO (z6 qq (z6 qq (z6 qq qz)))) (qk qC (qZ G_w_mix hr rfl T.jd.mg T.jd.fn.kp T.jd.bd .nil qY (z6 (pv 1) (z6 (pv 5) qz))) z9) (fun _ _=>rfl)) (z6 (qJ (qu (K:=K) rfl) (pv 0) (qk xk z9 (pv 5)) (fun _ _=>rfl)) qz))) qz)))))
   (qx (qt (yz (z6 (pv 2) (z6 (pv 3) (z6 (pv 4) qz)))))))))),?_⟩
 have hN:=dq c
 have m0a:0≤cell % 4:=Int.emod_nonneg _ (by decide)
 have m0b:cell % 4 < 4:=Int.emod_lt_of_pos _ (by decide)
 have m1a:0≤cell / 4 % 6:=Int.emod_nonneg _ (by decide)
 have m1b:cell / 4 % 6 < 6:=Int.emod_lt_of_pos _ (by decide)
 have m2a:0≤cell / 24 % 12:=Int.emod_nonneg _ (by decide)
 have m2b:cell / 24 % 12 < 12:=Int.emod_lt_of_pos _ (by decide)
 obtain⟨n0,en0⟩:=Int.eq_ofNat_of_zero_le (show 0≤1 + cell % 4 by omega)
 obtain⟨n1,en1⟩:=Int.eq_ofNat_of_zero_le (show 0≤1 + cell / 4 % 6 by omega)
 obtain⟨n2,en2⟩:=Int.eq_ofNat_of_zero_le (show 0≤1 + cell / 24 % 12 by omega)
 walk_at "rd"
 intro lp H1 s1 hlp e1
 have e1':H1 lp=some (.lst (((NN c).take n0).map V.str)):=by rw[←gG V.str (NN c) n0,←en0];exact e1
 clear e1
 have hA1:=s1.seq hA
 walk_at "rd"
 intro la H2 s2 hla e2
 have e2':H2 la=some (.lst ((((NN c).drop 4).take n1).map V.str)):=by
  rw[←eM V.str (NN c) 4 n1 (by omega),show ((4 + n1:Nat):Int)=5 + cell / 4 % 6 by omega]
  exact e2
 clear e2
 walk_at "rd"
 intro lr H3 s3 hlr e3
 walk_at "rd"
 have ent:(1 + cell / 24 % 12).toNat=n2:=by omega
 have sA:qf H H3:=(s1.trans s2).trans s3
 have hlr0:H lr=none:=(s1.trans s2).free hlr
 have ne1:lp≠lr:=qm (s2 _ _ e1') hlr
 have ne2:la≠lr:=qm e2' hlr
 refine pO (lo:=0) (n:=(1 + cell / 24 % 12).toNat) (fun i σ H'=>∃(vs:List V) (qK:List (Str × Str)) (v5:Option V),σ=[some (.ref a),some (.int cell),some (.ref lp),some (.ref la),some (.ref lr),v5]∧qf H H'∧H' lr=some (.lst vs)∧H' lp=some (.lst (((NN c).take n0).map V.str))∧H' la=some (.lst ((((NN c).drop 4).take n1).map V.str))∧Paired (vR H') vs qK∧(∀mn∈qK,fV mn)∧qK.map (·.2)=(List.range i).map (fun (j:Nat)=>yU c ((10 + j:Nat):Int)))
  ⟨[],[],none,rfl,sA,e3,s3 _ _ (s2 _ _ e1'),s3 _ _ e2',.nil,fun _ z=>(by cases z),rfl⟩ ?_ ?_
 ·rintro i σ H4 hi ⟨vs,qK,v5,rfl,s4,e4,p4,a4,hP,h4,g4⟩
  rw[ent] at hi
  have hA4:=s4.seq hA
  have x0:0≤wH cell (0 + (i:Int)) % 3:=Int.emod_nonneg _ (by decide)
  have x1:wH cell (0 + (i:Int)) % 3 < 3:=Int.emod_lt_of_pos _ (by decide)
  have hlen:qK.length=i:=by have:=congrArg List.length g4;simpa using this
  have ei:(NN c).getD (10 + (0 + (i:Int))).toNat (Str.ofString "")=yU c ((10 + i:Nat):Int):=by
   rw[show (10 + (0 + (i:Int))).toNat=10 + i by omega];exact gr c (by omega)
  walk_at "rd"
  intro l8 H8 s8 hl8 e8
  have e8':H8 l8=some (.lst (HR.map V.str)):=e8
  clear e8
  have hA8:=s8.seq hA4
  refine⟨_,rfl,_,rfl,cell,_,rfl,by omega,by omega,?_⟩
  refine⟨_,_,rfl,rfl,(show (0:Int) < 3 by decide),?_⟩
  refine⟨l8,_,_,_,rfl,rfl,jx.of e8',yl x0 (show _ < (3:Int) from x1),?_⟩
  refine⟨_,rfl,_,rfl,_,_,rfl,rfl,a,_,_,_,rfl,rfl,hA8,yl (by omega) (by omega),?_⟩
  rw[ei]
  have hm:=YC (wH cell (0 + (i:Int)) % 3).toNat (by omega)
  walk_at "rd"
  intro q H9 s9 hq e9
  have e49:=s9 _ _ (s8 _ _ e4)
  refine⟨lr,_,_,rfl,rfl,e49,qp (by have:=Paired.length hP;omega),?_⟩
  intro H10 k10 e10
  have hP9:Paired (vR H9) (vs ++ [.ref q]) (qK ++ [(HR.getD (wH cell (0 + (i:Int)) % 3).toNat "",yU c ((10 + i:Nat):Int))]):=Paired.snoc (Paired.imp' (fun _ _ z=>z.same (s8.trans s9)) hP) ⟨q,rfl,e9⟩
  refine⟨_,_,_,rfl,k10.put ((s4.trans s8).trans s9) hlr0,e10,k10.look (s9 _ _ (s8 _ _ p4)) ne1,k10.look (s9 _ _ (s8 _ _ a4)) ne2,Paired.imp' (fun _ _ z=>z.keeps k10 e49) hP9,fun mn hmn=>?_,?_⟩
  ·(rcases List.mem_append.mp hmn with q | q)
   ·exact h4 mn q
   ·rw[List.mem_singleton.mp q];exact⟨hm,gf c⟩
  ·rw[List.map_append,g4,List.range_succ,List.map_append];rfl
 ·rintro σ H4 ⟨vs,qK,v5,rfl,s4,e4,p4,a4,hP,h4,g4⟩
  rw[ent] at g4
  have hlen:qK.length=n2:=by have:=congrArg List.length g4;simpa using this
  have lps:((NN c).take n0).length=n0:=by rw[List.length_take,hN];omega
  have las:(((NN c).drop 4).take n1).length=n1:=by rw[List.length_take,List.length_drop,hN];omega
  have e0:(NN c).take n0=(List.range n0).map fun (j:Nat)=>yU c (j:Int):=by
   have:=Z7 c (n:=0) (m:=n0) (by omega)
   rw[List.drop_zero] at this
   rw[this]
   exact List.map_congr_left fun j _=>by rw[Nat.zero_add]
  have e1:=Z7 c (n:=4) (m:=n1) (by omega)
  have nd:=QJ c (n0:=n0) (n1:=n1) (n2:=n2) (by omega) (by omega) (by omega)
  walk_at "rd"
  intro q H5 s5 hq e5
  refine k _ _ qK q H5 ⟨⟨by omega,by omega,by omega,by omega,by omega,by omega,fun x hx=>?_,fun x hx=>?_,h4,by rw[g4,e0,e1];exact nd⟩,by rw[lps];exact e0,by rw[las];exact e1,by rw[hlen];exact g4⟩ (s4.trans s5) (s4.free hq) ⟨lp,la,lr,vs,e5,s5 _ _ p4,s5 _ _ a4,s5 _ _ e4,Paired.imp' (fun _ _ z=>z.same s5) hP⟩
  ·rw[e0] at hx
   obtain⟨j,_,rfl⟩:=List.mem_map.mp hx
   exact gf c
  ·rw[e1] at hx
   obtain⟨j,_,rfl⟩:=List.mem_map.mp hx
   exact gf c
end
theorem nF:("let " : Str).cps.toList=("let" : Str).cps.toList ++ [32]∧(" be " : Str).cps.toList=32 :: (("be" : Str).cps.toList ++ [32])∧(" " : Str).cps.toList=[32]∧("must " : Str).cps.toList=("must" : Str).cps.toList ++ [32]∧(" by " : Str).cps.toList=32 :: (("by" : Str).cps.toList ++ [32])∧(" else " : Str).cps.toList=32 :: (("else" : Str).cps.toList ++ [32])∧("may " : Str).cps.toList=("may" : Str).cps.toList ++ [32]∧("may not " : Str).cps.toList=("may" : Str).cps.toList ++ 32 :: (("not" : Str).cps.toList ++ [32])∧("by " : Str).cps.toList=("by" : Str).cps.toList ++ [32]∧(" to " : Str).cps.toList=32 :: (("to" : Str).cps.toList ++ [32]):=by decide +kernel
theorem Jm (a b:Str):Str.ofString "let " ++ a ++ Str.ofString " be " ++ b=Ew.row (.lt a b):=by
 obtain⟨h1,h2,h3,h4,h5,h6,h7,h8,h9,h10⟩:=nF
 refine qX ?_
 unfold Ew.row Ew.ws
 rw[join_eq,qv,qv,qv,L2.join_one,cps_append,cps_append,cps_append,h1,h2]
 simp
theorem WR (l w a s r:Str):l ++ Str.ofString " " ++ w ++ Str.ofString " " ++ Str.ofString "must " ++ a ++ Str.ofString " by " ++ s ++ Str.ofString " else " ++ r=Txt.join " " [l,w,"must",a,"by",s,"else",r]:=by
 obtain⟨h1,h2,h3,h4,h5,h6,h7,h8,h9,h10⟩:=nF
 refine qX ?_
 rw[join_eq,qv,qv,qv,qv,qv,qv,qv,L2.join_one,cps_append,cps_append,cps_append,cps_append,cps_append,cps_append,cps_append,cps_append,cps_append,h3,h4,h5,h6]
 simp
theorem WL (l w a:Str):l ++ Str.ofString " " ++ w ++ Str.ofString " " ++ Str.ofString "may " ++ a=Ew.row (.my l w a):=by
 obtain⟨h1,h2,h3,h4,h5,h6,h7,h8,h9,h10⟩:=nF
 refine qX ?_
 unfold Ew.row Ew.ws
 rw[join_eq,qv,qv,qv,L2.join_one,cps_append,cps_append,cps_append,cps_append,cps_append,h3,h7]
 simp
theorem WU (l w a r:Str):l ++ Str.ofString " " ++ w ++ Str.ofString " " ++ Str.ofString "may not " ++ a ++ Str.ofString " else " ++ r=Ew.row (.bn l w a r):=by
 obtain⟨h1,h2,h3,h4,h5,h6,h7,h8,h9,h10⟩:=nF
 refine qX ?_
 unfold Ew.row Ew.ws
 rw[join_eq,qv,qv,qv,qv,qv,qv,L2.join_one,cps_append,cps_append,cps_append,cps_append,cps_append,cps_append,cps_append,h3,h6,h8]
 simp
theorem WS (l w a r:Str):l ++ Str.ofString " " ++ w ++ Str.ofString " " ++ Str.ofString "by " ++ a ++ Str.ofString " to " ++ r=Ew.row (.pw l w a r):=by
 obtain⟨h1,h2,h3,h4,h5,h6,h7,h8,h9,h10⟩:=nF
 refine qX ?_
 unfold Ew.row Ew.ws
 rw[join_eq,qv,qv,qv,qv,qv,L2.join_one,cps_append,cps_append,cps_append,cps_append,cps_append,cps_append,cps_append,h3,h9,h10]
 simp
theorem tF {u:Str} (h:oE u):u.length≤8:=by
 rcases h with h | rfl
 ·exact(kJ h).2.1
 ·decide +kernel
theorem je {u:Str} (h:qw u=true):u.length≤8:=(kJ h).2.1
noncomputable def Vo:Sp:=fun vs H Q _=>∃(v:V) (e:Ew),vs=[v]∧aS H v e∧e.ok∧∀H',qf H H'→Q (.str e.row) H'
section
variable {P:Program} {w:World} {K:PySem.W.Frag} {mg:Str→Option Value} {base:Heap} {t:xj}
theorem uD:qV ["_law_event_here","_law_head"] ["_law_event_here"] (z7 yp):=⟨rfl,rfl,rfl,by decide +kernel,rfl,by decide +kernel,by decide +kernel⟩
set_option maxHeartbeats 400000 in
theorem Q3 (T:Txt K mg t):qW P w K mg base jW 1 t.cm t.cb ["_law_event_here"] Vo:=by
 refine T.oI.fn.ok uD (fun vs H Q E h=>(by obtain⟨_,_,rfl,_⟩:=h;rfl)) (fun cdv A outer s H vs Q E hr h=>?_)
 obtain⟨v,e,rfl,hE,jw,k⟩:=h
 refine⟨_,(z8 (qM (ql jk (qJ (jg (K:=K) rfl) (pv 0) z9 (fun _ _=>rfl)) qq (qe _))
    (qx (qt qq)) qo)
   (z8 (qM (ql jk (qJ (jg (K:=K) rfl) (pv 0) z9 (fun _ _=>rfl)) qq (qe _))
    (qx (qt (qk qj (qk qj (qk qj qq (qJ (jg (K:=K) rfl) (pv 0) z9 (fun _ _=>rfl))) qq) (qJ (jg (K:=K) rfl) (pv 0) z9 (fun _ _=>rfl))))) qo)
   (z8 (qM (ql jk (qJ (jg (K:=K) rfl) (pv 0) z9 (fun _ _=>rfl)) qq (qe _))
    (qx (qt (vw PySem.F.plainAttrs_str PySem.F.slot_str_join PySem.F.type_str_join (yJ (K:=K) rfl) qq (z6 (qk xU (qk xU (qO (z6 qq (z6 (qJ (jg (K:=K) rfl) (pv 0) z9 (fun _ _=>rfl)) qz))) (qk Q5 (qO (z6 qq qz)) (jI yd rfl T.fO PyProof.Rows.boot_int (z6 (kX (XS (K:=K) rfl hr.units) (qJ (jg (K:=K) rfl) (pv 0) z9 (fun _ _=>rfl)) (qO qz) (qe _)) qz)))) (qJ (jg (K:=K) rfl) (pv 0) z9 (fun _ _=>rfl))) qz)))) qo)
   (z8 (qi (i:=1) uD.nd rfl (Or.inl rfl) (qk qj (qk qj (qk qj (qJ (jg (K:=K) rfl) (pv 0) z9 (fun _ _=>rfl)) qq) (qJ (jg (K:=K) rfl) (pv 0) z9 (fun _ _=>rfl))) qq))
   (z8 (qM (ql jk (qJ (jg (K:=K) rfl) (pv 0) z9 (fun _ _=>rfl)) qq (qe _))
    (z8 (qi (i:=1) uD.nd rfl (Or.inl rfl) (qk qj (qk qj (qk qj (pv 1) qq) (qJ (jg (K:=K) rfl) (pv 0) z9 (fun _ _=>rfl))) qq))
   (qx (qt (qk qj (qk qj (qk qj (pv 1) (jI lT rfl T.KD PyProof.Rows.boot_str (z6 (qJ (jg (K:=K) rfl) (pv 0) z9 (fun _ _=>rfl)) qz))) qq) (qJ (jg (K:=K) rfl) (pv 0) z9 (fun _ _=>rfl)))))) qo)
   (z8 (qM (ql jk (qJ (jg (K:=K) rfl) (pv 0) z9 (fun _ _=>rfl)) qq (qe _))
    (qx (qt (qk qj (qk qj (pv 1) qq) (qJ (jg (K:=K) rfl) (pv 0) z9 (fun _ _=>rfl))))) qo)
   (z8 (qM (ql jk (qJ (jg (K:=K) rfl) (pv 0) z9 (fun _ _=>rfl)) qq (qe _))
    (qx (qt (qk qj (qk qj (qk qj (qk qj (pv 1) qq) (qJ (jg (K:=K) rfl) (pv 0) z9 (fun _ _=>rfl))) qq) (qJ (jg (K:=K) rfl) (pv 0) z9 (fun _ _=>rfl))))) qo)
   (qx (qt (qk qj (qk qj (qk qj (qk qj (pv 1) qq) (qJ (jg (K:=K) rfl) (pv 0) z9 (fun _ _=>rfl))) qq) (qJ (jg (K:=K) rfl) (pv 0) z9 (fun _ _=>rfl)))))))))))),?_⟩
 cases e with
 | dn=>
  obtain⟨p,rfl,ep⟩:=hE
  have:=k H (qf.refl _)
  rw[vS] at this
  walk_at "rd"
  exact this
 | lt a b=>
  obtain⟨p,rfl,ep⟩:=hE
  have:=k H (qf.refl _)
  rw[←Jm] at this
  have l1:=je jw.1
  have l2:=je jw.2
  walk_at "rd"
  exact this
 | mu l w a n r=>
  obtain⟨p,rfl,ep⟩:=hE
  have:=k H (qf.refl _)
  have er:Ew.row (.mu l w a n r)=_:=(WR l w a (Str.ofString (toString n)) r).symm
  rw[er] at this
  have l1:=je jw.1
  have l2:=je jw.2.1
  have l3:=je jw.2.2.1
  have l4:=je jw.2.2.2.2.2
  have n1:=jw.2.2.2.1
  have n2:=jw.2.2.2.2.1
  have l5:=(cX n1 n2).2.2.2
  have l6:=Zd (n:=n) (by omega) (by omega)
  walk_at "rd"
  exact this
 | my l w a=>
  obtain⟨p,rfl,ep⟩:=hE
  have:=k H (qf.refl _)
  rw[←WL] at this
  have l1:=je jw.1
  have l2:=tF jw.2.1
  have l3:=je jw.2.2
  walk_at "rd"
  exact this
 | bn l w a r=>
  obtain⟨p,rfl,ep⟩:=hE
  have:=k H (qf.refl _)
  rw[←WU] at this
  have l1:=je jw.1
  have l2:=tF jw.2.1
  have l3:=je jw.2.2.1
  have l4:=je jw.2.2.2
  walk_at "rd"
  exact this
 | pw l w a r=>
  obtain⟨p,rfl,ep⟩:=hE
  have:=k H (qf.refl _)
  rw[←WS] at this
  have l1:=je jw.1
  have l2:=tF jw.2.1
  have l3:=je jw.2.2.1
  have l4:=je jw.2.2.2
  walk_at "rd"
  exact this
 | pt n rs=>
  obtain⟨p,q,rfl,ep,eq⟩:=hE
  have hl12:=jw.2.2
  walk_at "rd"
  intro l1 H1 s1 hl1 e1
  walk_at "rd"
  intro l2 H2 s2 hl2 e2
  walk_at "rd"
  intro l3 H3 s3 hl3 e3
  have sh:SeqAt.shaped (.list (rs.map PyData.str))=true:=wU fun y hy=>(uy (jw.2.1 y hy)).ok
  have sh0:SeqAt.shaped (.list (([]:List Str).map PyData.str))=true:=wU (xs:=[]) fun y hy=>by cases hy
  have eq3:=s3 _ _ (s2 _ _ (s1 _ _ eq))
  refine⟨_,_,lF.lst (jx.of eq3) (bz.strs rs),lF.lst (jx.of e3) (bz.strs []),sh,sh0,?_⟩
  rw[nJ]
  refine .inr ⟨_,rfl,?_⟩
  have eb:(if (if true=true then !decide (rs=[]) else decide (rs=[]))=true then (1:Int) else 0)=((if rs=[] then 0 else 1:Nat):Int):=by by_cases z:rs=[]<;>simp [z]
  rw[eb]
  have hm:(if rs=[] then 0 else 1:Nat)≤1:=by split<;>decide
  have ew:(Ew.ws (.pt n rs))=(["part",n]:List Str) ++ List.replicate (if rs=[] then 0 else 1:Nat) ("in" : Str) ++ rs:=by cases rs<;>rfl
  generalize (if rs=[] then 0 else 1:Nat)=m at *
  refine⟨l2,_,_,rfl,rfl,s3 _ _ e2,by omega,by omega,qp (by simp only[List.length_cons,List.length_nil,Int.toNat_natCast];omega),fun q4 hq4=>?_⟩
  have s4:qf H3 (upd H3 q4 (.lst (List.replicate ((m:Nat):Int).toNat [V.str (Str.ofString "in")]).flatten)):=qf.nN hq4
  have e13:=s4 _ _ (s3 _ _ (s2 _ _ e1))
  refine⟨l1,q4,_,_,rfl,rfl,e13,qr,qp (by rw[len_rep];simp only[List.length_cons,List.length_nil,Int.toNat_natCast];omega),?_⟩
  intro l5 H5 s5 hl5 e5
  rw[Int.toNat_natCast,sN] at e5
  have ep5:=s5 _ _ (s4 _ _ (s3 _ _ (s2 _ _ (s1 _ _ ep))))
  have eq5:=s5 _ _ (s4 _ _ eq3)
  walk_at "rd"
  refine⟨l5,q,_,_,rfl,rfl,e5,eq5,qp (by simp only[List.length_append,List.length_cons,List.length_nil,List.length_replicate,List.length_map];omega),?_⟩
  intro l6 H6 s6 hl6 e6
  have e6':H6 l6=some (.lst ((Ew.ws (.pt n rs)).map V.str)):=by
   rw[e6,ew,List.map_append,List.map_append,List.map_replicate]
   rfl
  have ht:=dQ (n:=20) (ws:=Ew.ws (.pt n rs)) fun x hx=>(Ew.wk jw x hx).2
  have hwl:(Ew.ws (.pt n rs)).length≤15:=by rw[ew];simp only[List.length_append,List.length_cons,List.length_nil,List.length_replicate];omega
  walk_at "rd"
  refine⟨_,l6,_,rfl,rfl,jx.of e6',by rw[sO];omega,?_⟩
  exact k H6 (((((s1.trans s2).trans s3).trans s4).trans s5).trans s6)
end
structure GB (ps as:List Str) (qK:List (Str × Str)):Prop where
 p1:1≤ps.length
 p2:ps.length≤4
 a1:1≤as.length
 a2:as.length≤6
 r2:qK.length≤12
 pn:∀x∈ps,qw x=true
 an:∀x∈as,qw x=true
 rn:∀mn∈qK,fV mn
theorem tM.w {ps as:List Str} {qK:List (Str × Str)} (h:tM ps as qK):GB ps as qK:=⟨h.p1,h.p2,h.a1,h.a2,h.r2,h.pn,h.an,h.rn⟩
theorem nW {x y:Str} (e:y.cps.toList=x.cps.toList ++ [32]) {ns:List Str} (h:ns≠[]):y ++ Txt.join " " ns=qQ (x :: ns):=by
 obtain⟨a,r,rfl⟩:=List.exists_cons_of_ne_nil h
 refine qX ?_
 unfold qQ
 rw[cps_append,join_eq,join_eq,qv,e]
 simp
theorem rT:("parties " : Str).cps.toList=("parties" : Str).cps.toList ++ [32]∧("acts " : Str).cps.toList=("acts" : Str).cps.toList ++ [32]∧(" " : Str).cps.toList=[32]∧("sore " : Str).cps.toList=("sore" : Str).cps.toList ++ [32]:=by decide +kernel
theorem WC (m n:Str):m ++ Str.ofString " " ++ n=wD (m,n):=by
 refine qX ?_
 unfold wD qQ
 rw[cps_append,cps_append,join_eq,qv,L2.join_one,rT.2.2.1]
 simp
theorem Paired.Bj {α β:Type} {F:α→β→Prop} {a:α}:∀{xs:List α} {ys:List β} {i:Nat},Paired F xs ys→xs[i]?=some a→∃b,ys[i]?=some b∧F a b
 | _ :: _,_ :: _,0,.cons h t,e=>by cases e;exact⟨_,rfl,h⟩
 | _ :: _,_ :: _,i + 1,.cons h t,e=>Paired.Bj (i:=i) t e
theorem take_snoc {α:Type} {xs:List α} {i:Nat} {b:α} (h:xs[i]?=some b):xs.take (i + 1)=xs.take i ++ [b]:=by
 rw[List.take_succ,h];rfl
theorem ZK (ps as:List Str) (qK:List (Str × Str)) (e1 e2:List Ew):rowsOf ps as qK (e1 ++ e2)=rowsOf ps as qK e1 ++ e2.map Ew.row:=by unfold rowsOf;simp
theorem Ky (ps as:List Str) (qK:List (Str × Str)) (mn:Str × Str):rowsOf ps as (qK ++ [mn]) []=rowsOf ps as qK [] ++ [wD mn]:=by unfold rowsOf;simp
theorem gI {ps as:List Str} {qK:List (Str × Str)} {evs:List Ew}:(rowsOf ps as qK evs).length=2 + qK.length + evs.length:=by unfold rowsOf;simp only[List.length_cons,List.length_append,List.length_map];omega
theorem oV:∀{ws:List V} {evs:List Ew} {H:Hp} {ys:List V},Paired (aS H) ws evs→ys.length=ws.length→(∀(i:Nat) (v:V) (e:Ew),evs[i]?=some e→ys[i]?=some v→v=.str e.row)→ys=(evs.map Ew.row).map V.str
 | [],[],_,ys,_,hl,_=>by cases ys with | nil=>rfl | cons a r=>simp at hl
 | _ :: ws,e :: evs,H,ys,.cons h t,hl,hv=>by
  cases ys with
  | nil=>simp at hl
  | cons y r=>
   rw[hv 0 y e rfl rfl,oV t (by simpa using hl) fun i v e' h1 h2=>hv (i + 1) v e' h1 h2]
   rfl
noncomputable def JH (K:PySem.W.Frag):Sp:=fun vs H Q _=>∃(p l:Addr) (ps as:List Str) (qK:List (Str × Str)) (ws:List V) (evs:List Ew),vs=[.ref p,.ref l]∧Z6 H p ps as qK∧GB ps as qK∧jx K H l ws∧Paired (aS H) ws evs∧(∀e∈evs,e.ok)∧evs.length≤150∧∀lr H',qf H H'→H lr=none→H' lr=some (.lst ((rowsOf ps as qK evs).map V.str))→Q (.ref lr) H'
section
variable {P:Program} {w:World} {K:PySem.W.Frag} {mg:Str→Option Value} {base:Heap} {t:xj}
theorem p3:qV ["_law_header_here","_law_events_here","_law_rows_here","_law_mark","_law_name_here"] ["_law_header_here","_law_events_here"] (z7 kU):=⟨rfl,rfl,rfl,by decide +kernel,rfl,by decide +kernel,by decide +kernel⟩
set_option maxHeartbeats 400000 in
theorem Zn (T:Txt K mg t):qW P w K mg base jW 2 t.mi t.mm ["_law_header_here","_law_events_here"] (JH K):=by
 have G_w_row:qW P w K mg base jW 1 t.cm t.cb ["_law_event_here"] Vo:=(Q3 T).mono (by decide)
 refine T.uA.fn.ok p3 (fun vs H Q E h=>(by obtain⟨_,_,_,_,_,_,_,rfl,_⟩:=h;rfl)) (fun cdv A outer s H vs Q E hr h=>?_)
 obtain⟨p,l,ps,as,qK,ws,evs,rfl,hH,hW,hL,hP,jw,hlen,k⟩:=h
 refine⟨_,(z8 (qi (i:=2) p3.nd rfl (Or.inl rfl) (qO (z6 (qk qj qq (vw PySem.F.plainAttrs_str PySem.F.slot_str_join PySem.F.type_str_join (yJ (K:=K) rfl) qq (z6 (qJ (jg (K:=K) rfl) (pv 0) z9 (fun _ _=>rfl)) qz))) (z6 (qk qj qq (vw PySem.F.plainAttrs_str PySem.F.slot_str_join PySem.F.type_str_join (yJ (K:=K) rfl) qq (z6 (qJ (jg (K:=K) rfl) (pv 0) z9 (fun _ _=>rfl)) qz))) qz))) p8)
   (z8 (fM PassesOwn.never rfl (gN (K:=K) rfl (qJ (jg (K:=K) rfl) (pv 0) z9 (fun _ _=>rfl))) (cK (K:=K) rfl rfl (wM (xR (i:=3) p3.nd rfl (Or.inl rfl)) (wM (xR (i:=4) p3.nd rfl (Or.inl rfl)) cV)))
    (qx (kK (vw PySem.F.plainAttrs_list PySem.F.slot_list_append PySem.F.type_list_append vO (pv 2) (z6 (qk qj (qk qj (pv 3) qq) (pv 4)) qz)))))
   (qx (qt (qk xU (pv 2) (mR (osc:=z7 kU) (N:=["_law_header_here","_law_events_here","_law_rows_here","_law_mark","_law_name_here"]) (names:=[]) (qS:=[]) rfl rfl rfl ⟨rfl,by decide +kernel,by decide +kernel,by decide +kernel,rfl,rfl,by decide +kernel,by decide +kernel⟩ (gN (K:=K) rfl (pv 1)) (fun _ _ _=>(qZ G_w_row hr rfl T.oI.mg T.oI.fn.kp T.oI.bd .nil qY (z6 (pv 0) qz))))))))),?_⟩
 obtain⟨lp,la,lr,vs,ep,elp,ela,elr,hR⟩:=hH
 have tp:=dQ (n:=8) (ws:=ps) fun x hx=>(kJ (hW.pn x hx)).2.1
 have ta:=dQ (n:=8) (ws:=as) fun x hx=>(kJ (hW.an x hx)).2.1
 have p1:=hW.p1;have p2:=hW.p2;have a1:=hW.a1;have a2:=hW.a2;have r2:=hW.r2
 have tp':(8 + 1) * ps.length≤9 * 4:=by omega
 have ta':(8 + 1) * as.length≤9 * 6:=by omega
 have j1:(Txt.join (Str.ofString " ") ps).length≤36:=by have:=cY ps;exact Nat.le_trans this (by omega)
 have j2:(Txt.join (Str.ofString " ") as).length≤54:=by have:=cY as;exact Nat.le_trans this (by omega)
 have w1:(Str.ofString "parties ").length=8:=by decide +kernel
 have w2:(Str.ofString "acts ").length=5:=by decide +kernel
 have np:ps≠[]:=fun z=>by rw[z] at p1;simp at p1
 have na:as≠[]:=fun z=>by rw[z] at a1;simp at a1
 walk_at "rd"
 refine⟨_,lp,ps,rfl,rfl,jx.of elp,by rw[sO];omega,?_⟩
 refine⟨_,_,rfl,rfl,qp (by omega),?_⟩
 rw[show Str.ofString "parties " ++ Txt.join (Str.ofString " ") ps=qQ ("parties" :: ps) from nW rT.1 np]
 walk_at "rd"
 refine⟨_,la,as,rfl,rfl,jx.of ela,by rw[sO];omega,?_⟩
 refine⟨_,_,rfl,rfl,qp (by omega),?_⟩
 rw[show Str.ofString "acts " ++ Txt.join (Str.ofString " ") as=qQ ("acts" :: as) from nW rT.2.1 na]
 refine⟨qp (by show 2≤1000;decide),?_⟩
 intro lq H1 s1 hlq e1
 have hvl:vs.length=qK.length:=Paired.length hR
 have hwl:ws.length=evs.length:=Paired.length hP
 have ep1:=s1 _ _ ep
 walk_at "rd"
 refine cU (K:=K) (a:=lr) (xs:=vs) (fun i σ H'=>∃v3 v4:Option V,σ=[some (.ref p),some (.ref l),some (.ref lq),v3,v4]∧qf H H'∧H' lq=some (.lst ((rowsOf ps as (qK.take i) []).map V.str)))
  ⟨none,none,rfl,s1,e1⟩ (fun i σ H' _ ⟨_,_,_,q,_⟩=>jx.of (q _ _ elr)) ?_ ?_
 ·rintro i y σ H2 hi ⟨v3,v4,rfl,s2,e2⟩
  obtain⟨mn,hmn,q,rfl,eq⟩:=Paired.Bj hR hi
  have hi':i < qK.length:=(List.getElem?_eq_some_iff.mp hmn).1
  have hm:=hW.rn mn (List.mem_of_getElem? hmn)
  have eq2:=s2 _ _ eq
  have g1:=(mJ _ hm.1).2.2.1
  have g2:=(kJ hm.2).2.1
  refine⟨q,_,rfl,fz.of eq2,rfl,_,_,rfl,_,_,rfl,rfl,?_⟩
  walk_at "rd"
  have hrl:=@gI ps as (qK.take i) []
  refine⟨lq,_,_,rfl,rfl,e2,qp (by rw[List.length_map,hrl,List.length_take];simp only[List.length_nil];omega),?_⟩
  intro H3 k3 e3
  refine⟨_,_,rfl,k3.put s2 hlq,?_⟩
  rw[e3,WC,take_snoc hmn,Ky,List.map_append]
  rfl
 ·rintro σ H2 ⟨v3,v4,rfl,s2,e2⟩
  rw[hvl,List.take_length] at e2
  walk_at "rd"
  have hL2:=s2.seq hL
  have hP2:Paired (aS H2) ws evs:=Paired.imp' (fun _ _ z=>z.same s2) hP
  refine gY (de hL2) (fun i _ v=>∀e,evs[i]?=some e→v=.str e.row) (qp (by omega)) ?_ ?_
  ·intro i y H' Q' hy s' kk
   obtain⟨e,he,hE⟩:=Paired.Bj hP2 hy
   refine⟨_,rfl,y,e,rfl,hE.same s',jw e (List.mem_of_getElem? he),fun H4 s4=>kk _ _ s4 fun e' h'=>?_⟩
   rw[he] at h'
   cases h'
   rfl
  intro D H3 ys s3 hD e3 hlen3 hp
  have eys:=oV hP2 hlen3 fun i v e h1 h2=>by
   have hi:i < ws.length:=by
    have:=(List.getElem?_eq_some_iff.mp h1).1
    omega
   exact hp i _ v (List.getElem?_eq_getElem hi) h2 e h1
  subst eys
  have hrl:=@gI ps as qK []
  refine⟨lq,D,_,_,rfl,rfl,s3 _ _ e2,e3,qp (by rw[List.length_map,hrl,List.length_map,List.length_map];simp only[List.length_nil];omega),?_⟩
  intro l4 H4 s4 hl4 e4
  refine k l4 H4 ((s2.trans s3).trans s4) ((s2.trans s3).free hl4) ?_
  have:=ZK ps as qK [] evs
  rw[List.nil_append] at this
  rw[e4,this,List.map_append]
end
theorem vE:∀{ws:List Str},(∀x∈ws,59∉x.cps.toList)→59∉(qQ ws).cps.toList
 | [],_=>by unfold qQ;decide +kernel
 | [x],h=>by unfold qQ;rw[join_eq,L2.join_one];exact h x (by simp)
 | x :: y :: r,h=>by
  have ih:=vE (ws:=y :: r) fun z hz=>h z (List.mem_cons_of_mem _ hz)
  unfold qQ at ih ⊢
  rw[join_eq] at ih ⊢
  rw[qv]
  intro hm
  (rcases List.mem_append.mp hm with hm | hm)
  ·exact h x (by simp) hm
  ·rcases List.mem_cons.mp hm with hm | hm
   ·cases hm
   ·exact ih hm
theorem qU {x:Str} (h:qw x=true):59∉x.cps.toList:=fun hc=>by
 have h':=h
 unfold qw at h'
 rw[Bool.and_eq_true] at h'
 have:¬59∈qT.cps.toList:=by decide +kernel
 exact this ((m8 h'.1).2.2 59 hc)
theorem uS {n:Nat}:∀{xs:List Str},(∀x∈xs,x.length≤n)→(xs.map (·.length)).sum≤n * xs.length
 | [],_=>by simp
 | x :: r,h=>by
  have h1:=h x (by simp)
  have h2:=uS (n:=n) (xs:=r) fun y hy=>h y (List.mem_cons_of_mem _ hy)
  rw[List.map_cons,List.sum_cons,List.length_cons,Nat.mul_add]
  omega
theorem yQ:∀x∈lits,59∉x.cps.toList∧x.length≤8:=by decide +kernel
theorem dy:∀x∈(["done","parties","acts"]:List Str),59∉x.cps.toList∧x.length≤8:=by decide +kernel
theorem QE {n:Int} (h1:1≤n):59∉(Str.ofString (toString n)).cps.toList:=by
 obtain⟨m,rfl⟩:=Int.eq_ofNat_of_zero_le (show 0≤n by omega)
 have e:=PySem.W.KIN.signs_num m
 intro hc
 rw[e] at hc
 obtain⟨ch,hch,e2⟩:=List.mem_map.mp hc
 have:=Nat.isDigit_of_mem_toDigits (b:=10) (by decide) (by decide) hch
 simp [Char.isDigit] at this
 have h2:ch.toNat≤57:=this.2
 have e3:ch.toNat=59:=e2
 omega
theorem Yz {u:Str} (h:oE u):59∉u.cps.toList:=by
 rcases h with h | rfl
 ·exact qU h
 ·exact(yQ _ (by simp [lits])).1
theorem lf {x:Str} (h:x∈lits):59∉x.cps.toList:=(yQ x h).1
theorem Ew.free {e:Ew} (h:e.ok):∀x∈e.ws,59∉x.cps.toList:=by
 intro x hx
 cases e with
 | lt a b=>
  simp only[Ew.ws,List.mem_cons,List.not_mem_nil,or_false] at hx
  rcases hx with rfl | rfl | rfl | rfl
  ·exact lf (by simp [lits])
  ·exact qU h.1
  ·exact lf (by simp [lits])
  ·exact qU h.2
 | mu l w a n r=>
  simp only[Ew.ws,List.mem_cons,List.not_mem_nil,or_false] at hx
  rcases hx with rfl | rfl | rfl | rfl | rfl | rfl | rfl | rfl
  ·exact qU h.1
  ·exact qU h.2.1
  ·exact lf (by simp [lits])
  ·exact qU h.2.2.1
  ·exact lf (by simp [lits])
  ·exact QE h.2.2.2.1
  ·exact lf (by simp [lits])
  ·exact qU h.2.2.2.2.2
 | my l w a=>
  simp only[Ew.ws,List.mem_cons,List.not_mem_nil,or_false] at hx
  rcases hx with rfl | rfl | rfl | rfl
  ·exact qU h.1
  ·exact Yz h.2.1
  ·exact lf (by simp [lits])
  ·exact qU h.2.2
 | bn l w a r=>
  simp only[Ew.ws,List.mem_cons,List.not_mem_nil,or_false] at hx
  rcases hx with rfl | rfl | rfl | rfl | rfl | rfl | rfl
  ·exact qU h.1
  ·exact Yz h.2.1
  ·exact lf (by simp [lits])
  ·exact lf (by simp [lits])
  ·exact qU h.2.2.1
  ·exact lf (by simp [lits])
  ·exact qU h.2.2.2
 | pw l w a r=>
  simp only[Ew.ws,List.mem_cons,List.not_mem_nil,or_false] at hx
  rcases hx with rfl | rfl | rfl | rfl | rfl | rfl
  ·exact qU h.1
  ·exact Yz h.2.1
  ·exact lf (by simp [lits])
  ·exact qU h.2.2.1
  ·exact lf (by simp [lits])
  ·exact qU h.2.2.2
 | dn=>
  simp only[Ew.ws,List.mem_cons,List.not_mem_nil,or_false] at hx
  rw[hx];exact(dy _ (by simp)).1
 | pt n rs=>
  cases rs with
  | nil=>
   simp only[Ew.ws,List.mem_cons,List.not_mem_nil,or_false] at hx
   rcases hx with rfl | rfl
   ·exact lf (by simp [lits])
   ·exact qU h.1
  | cons y rs=>
   simp only[Ew.ws] at hx
   (rcases List.mem_cons.mp hx with rfl | hx)
   ·exact lf (by simp [lits])
   (rcases List.mem_cons.mp hx with rfl | hx)
   ·exact qU h.1
   (rcases List.mem_cons.mp hx with rfl | hx)
   ·exact lf (by simp [lits])
   ·exact qU (h.2.1 x hx)
structure u7 (x:Str):Prop where
 fr:59∉x.cps.toList
 sh:x.length≤180
theorem cW {ws:List Str} (h:∀x∈ws,x.length≤8) (hl:ws.length≤20):(qQ ws).length≤180:=by
 have h1:(qQ ws).length≤oN ws:=cY ws
 have h2:=dQ (n:=8) (ws:=ws) h
 omega
theorem Ew.Kv {e:Ew} (h:e.ok):u7 e.row:=by
 refine⟨vE (Ew.free h),?_⟩
 have h1:e.row.length≤oN e.ws:=cY e.ws
 by_cases q:e.ws.length≤8
 ·have h2:=dQ (n:=20) (ws:=e.ws) fun x hx=>(Ew.wk h x hx).2
  omega
 cases e with
 | pt n rs=>
  cases rs with
  | nil=>exact absurd (by simp [Ew.ws]) q
  | cons y rs=>
   refine cW (ws:=(Ew.pt n (y :: rs)).ws) (fun x hx=>?_) ?_
   ·simp only[Ew.ws] at hx
    (rcases List.mem_cons.mp hx with rfl | hx)
    ·exact(yQ _ (by simp [lits])).2
    (rcases List.mem_cons.mp hx with rfl | hx)
    ·exact je h.1
    (rcases List.mem_cons.mp hx with rfl | hx)
    ·exact(yQ _ (by simp [lits])).2
    ·exact je (h.2.1 x hx)
   ·have:=h.2.2
    simp only[Ew.ws,List.length_cons] at this ⊢
    omega
 | dn=>exact absurd (by simp [Ew.ws]) q
 | lt a b=>exact absurd (by simp [Ew.ws]) q
 | mu l w a n r=>exact absurd (by simp [Ew.ws]) q
 | my l w a=>exact absurd (by simp [Ew.ws]) q
 | bn l w a r=>exact absurd (by simp [Ew.ws]) q
 | pw l w a r=>exact absurd (by simp [Ew.ws]) q
theorem cc {x:Str} {ns:List Str} (hx:x∈(["done","parties","acts"]:List Str)) (hn:∀y∈ns,qw y=true) (hl:ns.length≤6):u7 (qQ (x :: ns)):=by
 have key:∀y∈x :: ns,59∉y.cps.toList∧y.length≤8:=fun y hy=>by
  (rcases List.mem_cons.mp hy with rfl | hy)
  ·exact dy _ hx
  ·exact⟨qU (hn y hy),je (hn y hy)⟩
 exact⟨vE fun y hy=>(key y hy).1,cW (fun y hy=>(key y hy).2) (by simp only[List.length_cons];omega)⟩
theorem Jb {mn:Str × Str} (h:fV mn):u7 (wD mn):=by
 have key:∀y∈[mn.1,mn.2],59∉y.cps.toList∧y.length≤8:=fun y hy=>by
  simp only[List.mem_cons,List.not_mem_nil,or_false] at hy
  rcases hy with rfl | rfl
  ·have:=mJ _ h.1;exact⟨this.2.1,by omega⟩
  ·exact⟨qU h.2,je h.2⟩
 exact⟨vE fun y hy=>(key y hy).1,cW (fun y hy=>(key y hy).2) (by simp)⟩
theorem Kw {ps as:List Str} {qK:List (Str × Str)} {evs:List Ew} (h:GB ps as qK) (he:∀e∈evs,e.ok):∀x∈rowsOf ps as qK evs,u7 x:=by
 intro x hx
 unfold rowsOf at hx
 (rcases List.mem_cons.mp hx with rfl | hx)
 ·exact cc (by simp) h.pn (by have:=h.p2;omega)
 (rcases List.mem_cons.mp hx with rfl | hx)
 ·exact cc (by simp) h.an (by have:=h.a2;omega)
 (rcases List.mem_append.mp hx with hx | hx)
 ·obtain⟨mn,hmn,rfl⟩:=List.mem_map.mp hx
  exact Jb (h.rn mn hmn)
 ·obtain⟨e,hee,rfl⟩:=List.mem_map.mp hx
  exact Ew.Kv (he e hee)
theorem Kj {ps as:List Str} {qK:List (Str × Str)} {evs:List Ew} {d:Nat} (h:tM ps as qK) (he:∀e∈evs,e.ok) (hd:rG 0 evs=some d) (hn:(wY evs).Nodup) (hl:evs.length≤76) :
  (d=0→∃r,xp (rowsOf ps as qK evs)=.ok r)∧(0 < d→xp (rowsOf ps as qK evs)=.error (rowsOf ps as qK evs).length):=by
 have h6:=h.r2
 obtain⟨fr,e1,l1⟩:=iR (i:=2 + qK.length) (fr:=[("whole",[],[])]) (ls:=[]) hd rfl (by decide) (by simpa using hn) (by omega)
 rw[Kx h he,tN he,e1]
 match fr,l1 with
 | [(a,b,c)],l1=>exact⟨fun _=>⟨_,rfl⟩,fun q=>by simp only[List.length_cons,List.length_nil] at l1;omega⟩
 | f :: g :: r,l1=>exact⟨fun q=>by simp only[List.length_cons] at l1;omega,fun _=>rfl⟩
section
variable {P:Program} {w:World} {K:PySem.W.Frag} {mg:Str→Option Value} {base:Heap} {t:xj}
end
noncomputable def kO (ps as:List Str) (qK:List (Str × Str)):List Str:=qQ ("parties" :: ps) :: qQ ("acts" :: as) :: qK.map wD
theorem ZJ (ps as:List Str) (qK:List (Str × Str)) (evs:List Ew):rowsOf ps as qK evs=kO ps as qK ++ evs.map Ew.row:=by unfold rowsOf kO;simp
theorem uW {taken tl:List Str} (ht:∀y∈tl.head?,vG (xJ y)=none):∀{qK found:List (Str × Str)},(∀mn∈qK,fV mn)→(taken ++ (found ++ qK).map (·.2)).Nodup→found.length + qK.length≤12→
  jG taken found (qK.map wD ++ tl)=if found ++ qK=[] then .error 2 else .ok (found ++ qK)
 | [],found,_,_,hf=>by
  rw[List.map_nil,List.nil_append,List.append_nil]
  cases tl with
  | nil=>simp only[jG]
  | cons e r=>
   rw[jG,ht e (by simp)]
 | mn :: r,found,hr,hnd,hf=>by
  have e:found ++ mn :: r=(found ++ [mn]) ++ r:=by simp
  rw[e] at hnd
  rw[List.map_cons,List.cons_append,jG,oX (hr mn List.mem_cons_self)]
  dsimp only
  have hnd1:(taken ++ (found ++ [mn]).map (·.2)).Nodup:=by
   rw[List.map_append,←List.append_assoc] at hnd
   exact(List.nodup_append.mp hnd).1
  simp only[List.length_cons] at hf
  rw[if_neg (fun z=>z.elim (fun z=>by omega) (fun z=>z hnd1)),uW ht (fun x hx=>hr x (List.mem_cons_of_mem _ hx)) hnd (by rw[List.length_append];simp only[List.length_cons,List.length_nil];omega),e]
theorem Jg {ps as tl:List Str} {qK:List (Str × Str)} (h:tM ps as qK) (ht:∀y∈tl.head?,vG (xJ y)=none) :
  xp (kO ps as qK ++ tl)=match Qn (kO ps as qK ++ tl).length (vh (2 + qK.length) tl [("whole",[],[])] []) with
   | .error n=>.error n
   | .ok rw=>.ok (ps,as,qK,rw):=by
 have e0:xJ (wd (kO ps as qK ++ tl) 0)=("parties" : Str) :: ps:=yF (by simp) h.pn
 have e1:xJ (wd (kO ps as qK ++ tl) 1)=("acts" : Str) :: as:=yF (by simp) h.an
 have hlen:(kO ps as qK ++ tl).length=2 + qK.length + tl.length:=by unfold kO;simp only[List.length_cons,List.length_append,List.length_map];omega
 have nd:=h.nd
 have nd2:(ps ++ as).Nodup:=(List.nodup_append.mp nd).1
 have nd1:ps.Nodup:=(List.nodup_append.mp nd2).1
 have h1:=h.p1;have h2:=h.p2;have h3:=h.a1;have h4:=h.a2;have h5:=h.r1;have h6:=h.r2
 have nps:ps≠[]:=fun z=>by rw[z] at h1;simp at h1
 have nas:as≠[]:=fun z=>by rw[z] at h3;simp at h3
 have nrm:qK≠[]:=fun z=>by rw[z] at h5;simp at h5
 have hn0:j0 (kO ps as qK ++ tl) 0 "parties" 4 []=some ps:=by
  unfold j0
  rw[if_neg (by omega),e0]
  dsimp only
  rw[vx h.p1 h.pn (by omega),if_neg (fun z=>z.elim nps (fun z=>z (by simpa using nd1)))]
 have hn1:j0 (kO ps as qK ++ tl) 1 "acts" 6 ps=some as:=by
  unfold j0
  rw[if_neg (by omega),e1]
  dsimp only
  rw[vx h.a1 h.an (by omega),if_neg (fun z=>z.elim nas (fun z=>z nd2))]
 have hrr:jG (ps ++ as) [] ((kO ps as qK ++ tl).drop 2)=.ok qK:=by
  have:=uW (taken:=ps ++ as) ht (qK:=qK) (found:=[]) h.rn (by simpa using nd) (by simpa using h6)
  rw[List.nil_append,if_neg nrm] at this
  exact this
 have hdrop:(kO ps as qK ++ tl).drop (2 + qK.length)=tl:=by
  have:(kO ps as qK).length=2 + qK.length:=by unfold kO;simp only[List.length_cons,List.length_map];omega
  rw[←this,List.drop_left]
 unfold xp
 rw[hn0]
 dsimp only
 rw[hn1]
 dsimp only
 rw[hrr]
 dsimp only
 unfold pR
 rw[hdrop]
 all_goals (cases Qn (kO ps as qK ++ tl).length (vh (2 + qK.length) tl [("whole",[],[])] [])<;>rfl)
theorem tT {tl:List Str}:∀{evs:List Ew} {i:Nat} {fr fr':List Fr} {ls:List Str},(∀e∈evs,e.ok)→iU i evs fr ls=.ok fr'→∃ls',vh i (evs.map Ew.row ++ tl) fr ls=vh (i + evs.length) tl fr' ls'
 | [],i,fr,fr',ls,_,h=>by cases h;exact⟨ls,rfl⟩
 | e :: r,i,fr,fr',ls,ho,h=>by
  rw[List.map_cons,List.cons_append,vh,Ew.takes (ho e List.mem_cons_self)]
  rw[iU] at h
  by_cases q:i=90
  ·rw[if_pos q] at h;cases h
  rw[if_neg q] at h ⊢
  cases hk:e.take fr ls with
  | none=>rw[hk] at h;cases h
  | some p=>
   rw[hk] at h
   obtain⟨f1,l1⟩:=p
   dsimp only at h ⊢
   obtain⟨ls',z⟩:=tT (tl:=tl) (fun x hx=>ho x (List.mem_cons_of_mem _ hx)) h
   exact⟨ls',by rw[z,List.length_cons,show i + 1 + r.length=i + (r.length + 1) by omega]⟩
theorem Jy {ps as rest:List Str} {qK:List (Str × Str)} {evs:List Ew} {d:Nat} {x:Str} (h:tM ps as qK) (he:∀e∈evs,e.ok) (hd:rG 0 evs=some d) (hn:(wY evs).Nodup) (hl:evs.length≤76) (hr:evs=[]→vG (xJ x)=none) (ht:∀(fr:List Fr) (ls:List Str),fr.length=d + 1→vP fr ls x=none) :
  xp (rowsOf ps as qK evs ++ x :: rest)=.error (rowsOf ps as qK evs).length:=by
 have h6:=h.r2
 obtain⟨fr,e1,l1⟩:=iR (i:=2 + qK.length) (fr:=[("whole",[],[])]) (ls:=[]) hd rfl (by decide) (by simpa using hn) (by omega)
 obtain⟨ls',e2⟩:=tT (tl:=x :: rest) he e1
 have hhd:∀y∈(evs.map Ew.row ++ x :: rest).head?,vG (xJ y)=none:=fun y hy=>by
  cases evs with
  | nil=>simp at hy;rw[←hy];exact hr rfl
  | cons e r=>simp at hy;rw[←hy];exact mS (he e List.mem_cons_self)
 rw[gI,ZJ,List.append_assoc,Jg h hhd,e2,vh]
 by_cases q:2 + qK.length + evs.length=90
 ·rw[if_pos q];rfl
 ·rw[if_neg q,ht fr ls' l1];rfl
structure Yb (x:Str):Prop where
 p:jV (xJ x) "parties" 4=[]
 a:jV (xJ x) "acts" 6=[]
 r:vG (xJ x)=none
 t:∀(fr:List Fr) (ls:List Str),vP fr ls x=none
theorem dZ {x:Str} (hd:¬x = "done") (h:iy (xJ x)) (fr:List Fr) (ls:List Str):vP fr ls x=none:=by
 obtain⟨h1,h2,h3,h4⟩:=h
 unfold vP
 rw[if_neg hd]
 simp only[h1,h2,h3,h4]
theorem Qv {x:Str} {ks:List Nat} (r:yC ks (xJ x)) (hT:uf ks=true) (hd:¬x = "done") (hp:jV (xJ x) "parties" 4=[]) (ha:jV (xJ x) "acts" 6=[]):Yb x:=by
 have he:=r.empty hT
 exact⟨hp,ha,he.2.2.2,dZ hd he⟩
section
variable {P:Program} {w:World} {K:PySem.W.Frag} {mg:Str→Option Value} {base:Heap} {t:xj}
end
theorem Jr {x y X Y:List Nat} (hx:d6 x) (hy:d6 y) (h:x ++ 59 :: 32 :: X=y ++ 59 :: 32 :: Y):x=y∧X=Y:=by
 have key:∀{x y X Y:List Nat},d6 y→x ++ 59 :: 32 :: X=y ++ 59 :: 32 :: Y→¬x.length < y.length:=fun {x y X Y} hy h q=>by
  have e1:(x ++ 59 :: 32 :: X)[x.length]?=some 59:=by rw[List.getElem?_append_right (Nat.le_refl _),Nat.sub_self];rfl
  have e2:(x ++ 59 :: 32 :: X)[x.length + 1]?=some 32:=by rw[List.getElem?_append_right (by omega),show x.length + 1 - x.length=1 by omega];rfl
  rw[h] at e1 e2
  rw[List.getElem?_append_left q] at e1
  by_cases z:x.length + 1 < y.length
  ·rw[List.getElem?_append_left z] at e2
   exact hy x.length e1 e2
  ·rw[List.getElem?_append_right (by omega),show x.length + 1 - y.length=0 by omega] at e2
   cases e2
 have hl:x.length=y.length:=by
  have h1:=key hy h
  have h2:=key hx h.symm
  omega
 obtain⟨e1,e2⟩:=List.append_inj h hl
 exact⟨e1,(List.cons.inj (List.cons.inj e2).2).2⟩
theorem rL:∀{as bs:List Str},as≠[]→bs≠[]→(∀x∈as,d6 x.cps.toList)→(∀x∈bs,d6 x.cps.toList)→Str.join "; " as=Str.join "; " bs→as=bs
 | [],_,h,_,_,_,_=>absurd rfl h
 | _ :: _,[],_,h,_,_,_=>absurd rfl h
 | [a],[b],_,_,_,_,e=>by rw[show a=b from e]
 | [a],b :: b' :: r,_,_,ha,_,e=>by
  have e':=congrArg (fun z=>z.cps.toList) e
  simp only[kd,L2.join_one] at e'
  exfalso
  refine ha a (by simp) b.cps.toList.length ?_ ?_
  ·rw[e',List.getElem?_append_right (Nat.le_refl _),Nat.sub_self];rfl
  ·rw[e',List.getElem?_append_right (by omega),show b.cps.toList.length + 1 - b.cps.toList.length=1 by omega];rfl
 | a :: a' :: r,[b],_,_,_,hb,e=>by
  have e':=congrArg (fun z=>z.cps.toList) e
  simp only[kd,L2.join_one] at e'
  exfalso
  refine hb b (by simp) a.cps.toList.length ?_ ?_
  ·rw[←e',List.getElem?_append_right (Nat.le_refl _),Nat.sub_self];rfl
  ·rw[←e',List.getElem?_append_right (by omega),show a.cps.toList.length + 1 - a.cps.toList.length=1 by omega];rfl
 | a :: a' :: r,b :: b' :: r',_,_,ha,hb,e=>by
  have e':=congrArg (fun z=>z.cps.toList) e
  simp only[kd] at e'
  obtain⟨e1,e2⟩:=Jr (ha a (by simp)) (hb b (by simp)) e'
  have:=rL (as:=a' :: r) (bs:=b' :: r') (by simp) (by simp) (fun x hx=>ha x (List.mem_cons_of_mem _ hx)) (fun x hx=>hb x (List.mem_cons_of_mem _ hx)) (qX e2)
  rw[qX e1,this]
theorem iC {rows:List Str} (h:rows≠[]) (hb:∀x∈rows,d6 x.cps.toList):Txt.split (Txt.join "; " rows) "; " = rows:=by
 rw[join_eq]
 have hj:Str.join "; " (Txt.split (Str.join "; " rows) "; ")=Str.join "; " rows:=StrLaws.join_split _ _
 refine(rL h ?_ hb ?_ hj.symm).symm
 ·intro q
  have:=PyProof.Rows.split_pos (Str.join "; " rows) "; "
  rw[q] at this
  simp at this
 ·rw[aW];exact lK _
theorem d6.free {l:List Nat} (h:59∉l):d6 l:=fun j e _=>h (List.mem_of_getElem? e)
theorem oR {ws:List Str} (h:ws≠[]) (hb:∀x∈ws,32∉x.cps.toList):xJ (qQ ws)=ws:=mE h hb
theorem kI {x:Str} {ws:List Str} {y:Str} {m:Int} (h:xJ x=ws) (hn:¬wd ws 0=y):jV (xJ x) y m=[]:=by
 unfold jV
 rw[h,if_pos (.inl hn)]
theorem du {x:Str} {ws:List Str} {y:Str} {m:Int} (h:xJ x=ws) (hn:wa (ws.drop 1) m=false):jV (xJ x) y m=[]:=by
 unfold jV
 rw[h,if_pos (.inr hn)]
theorem Xx {ks:List Nat} {ws:List Str} (hne:ws≠[]) (hb:∀x∈ws,32∉x.cps.toList) (r:yC ks ws) (hT:uf ks=true) (hd:ws≠[("done" : Str)]) (hh:¬wd ws 0 = "parties"∧¬wd ws 0 = "acts"∨∀m,wa (ws.drop 1) m=false):Yb (qQ ws):=by
 have hs:=oR hne hb
 refine Qv (ks:=ks) (by rw[hs];exact r) hT (fun z=>hd ?_) ?_ ?_
 ·have e:xJ "done" = [("done" : Str)]:=by decide +kernel
  rw[z,e] at hs
  exact hs.symm
 ·rcases hh with h | h
  ·exact kI hs h.1
  ·exact du hs (h 4)
 ·rcases hh with h | h
  ·exact kI hs h.2
  ·exact du hs (h 6)
theorem ro {x:Str} (h:qw x=false∧vC x=0∧x∉lits):Rt 2 x:=.inr (.inr (.inl ⟨rfl,h⟩))
section
variable {P:Program} {w:World} {K:PySem.W.Frag} {mg:Str→Option Value} {base:Heap} {t:xj}
end
theorem Ys:(Str.ofString "").cps.toList=[]:=by decide +kernel
theorem VL:(Str.ofString " ").cps.toList=[32]:=by decide +kernel
theorem Pb:(Str.ofString "  any may ").cps.toList=[32,32,97,110,121,32,109,97,121,32]:=by decide +kernel
theorem Pp:(Str.ofString " all may ").cps.toList=[32,97,108,108,32,109,97,121,32]:=by decide +kernel
theorem Pf:(Str.ofString " any may any").cps.toList=[32,97,110,121,32,109,97,121,32,97,110,121]:=by decide +kernel
theorem Pm:(Str.ofString " any must ").cps.toList=[32,97,110,121,32,109,117,115,116,32]:=by decide +kernel
theorem Pd:(Str.ofString " be").cps.toList=[32,98,101]:=by decide +kernel
theorem Pc:(Str.ofString " be Any").cps.toList=[32,98,101,32,65,110,121]:=by decide +kernel
theorem Pu:(Str.ofString " be any").cps.toList=[32,98,101,32,97,110,121]:=by decide +kernel
theorem Pl:(Str.ofString " by 0 else ").cps.toList=[32,98,121,32,48,32,101,108,115,101,32]:=by decide +kernel
theorem Hf:(Str.ofString " by 3 else ").cps.toList=[32,98,121,32,51,32,101,108,115,101,32]:=by decide +kernel
theorem Hm:(Str.ofString " done").cps.toList=[32,100,111,110,101]:=by decide +kernel
theorem Yt:(Str.ofString " in").cps.toList=[32,105,110]:=by decide +kernel
theorem Hd:(Str.ofString " in any").cps.toList=[32,105,110,32,97,110,121]:=by decide +kernel
theorem Hc:(Str.ofString " may").cps.toList=[32,109,97,121]:=by decide +kernel
theorem Hu:(Str.ofString " may ").cps.toList=[32,109,97,121,32]:=by decide +kernel
theorem Hr:(Str.ofString " must ").cps.toList=[32,109,117,115,116,32]:=by decide +kernel
theorem Hl:(Str.ofString " x").cps.toList=[32,120]:=by decide +kernel
theorem Hs:(Str.ofString "0").cps.toList=[48]:=by decide +kernel
theorem Ht:(Str.ofString "3").cps.toList=[51]:=by decide +kernel
theorem Hn:(Str.ofString "Any").cps.toList=[65,110,121]:=by decide +kernel
theorem Ho:(Str.ofString "Done").cps.toList=[68,111,110,101]:=by decide +kernel
theorem Hi:(Str.ofString "acts").cps.toList=[97,99,116,115]:=by decide +kernel
theorem He:(Str.ofString "all").cps.toList=[97,108,108]:=by decide +kernel
theorem nu:(Str.ofString "any").cps.toList=[97,110,121]:=by decide +kernel
theorem Ha:(Str.ofString "any ").cps.toList=[97,110,121,32]:=by decide +kernel
theorem Xg:(Str.ofString "be").cps.toList=[98,101]:=by decide +kernel
theorem Yn:(Str.ofString "by").cps.toList=[98,121]:=by decide +kernel
theorem Yo:(Str.ofString "calm").cps.toList=[99,97,108,109]:=by decide +kernel
theorem HZ:(Str.ofString "calm ").cps.toList=[99,97,108,109,32]:=by decide +kernel
theorem Yi:(Str.ofString "done").cps.toList=[100,111,110,101]:=by decide +kernel
theorem HQ:(Str.ofString "done ").cps.toList=[100,111,110,101,32]:=by decide +kernel
theorem Ye:(Str.ofString "else").cps.toList=[101,108,115,101]:=by decide +kernel
theorem VS:(Str.ofString "in").cps.toList=[105,110]:=by decide +kernel
theorem Xh:(Str.ofString "let").cps.toList=[108,101,116]:=by decide +kernel
theorem VT:(Str.ofString "let ").cps.toList=[108,101,116,32]:=by decide +kernel
theorem HJ:(Str.ofString "let any be ").cps.toList=[108,101,116,32,97,110,121,32,98,101,32]:=by decide +kernel
theorem Zz:(Str.ofString "may").cps.toList=[109,97,121]:=by decide +kernel
theorem Ya:(Str.ofString "must").cps.toList=[109,117,115,116]:=by decide +kernel
theorem iw:(Str.ofString "part").cps.toList=[112,97,114,116]:=by decide +kernel
theorem VN:(Str.ofString "part ").cps.toList=[112,97,114,116,32]:=by decide +kernel
theorem HX:(Str.ofString "part any").cps.toList=[112,97,114,116,32,97,110,121]:=by decide +kernel
theorem HK:(Str.ofString "part parties").cps.toList=[112,97,114,116,32,112,97,114,116,105,101,115]:=by decide +kernel
theorem HV:(Str.ofString "part whole").cps.toList=[112,97,114,116,32,119,104,111,108,101]:=by decide +kernel
theorem YZ:(Str.ofString "parties").cps.toList=[112,97,114,116,105,101,115]:=by decide +kernel
theorem HW:(Str.ofString "whole").cps.toList=[119,104,111,108,101]:=by decide +kernel
theorem HY:(Str.ofString "x").cps.toList=[120]:=by decide +kernel
structure Wq (k:Nat) (x:Str):Prop where
 rt:Rt k x
 nb:32∉x.cps.toList
 fr:59∉x.cps.toList
 le:x.length≤8
theorem m7 {x:Str} (h:qw x=true):Wq 0 x:=⟨rn h,yg h,qU h,je h⟩
theorem g9 {x:Str} {k:Nat} (h:lits[k]?=some x):Wq (k + 3) x:=⟨rl h,(ag x (List.mem_of_getElem? h)).2.1,(yQ x (List.mem_of_getElem? h)).1,(yQ x (List.mem_of_getElem? h)).2⟩
theorem GH:∀x∈(["","Done","done","whole","parties","acts","0","Any"]:List Str),(qw x=false∧vC x=0∧x∉lits)∧32∉x.cps.toList∧59∉x.cps.toList∧x.length≤8:=by decide +kernel
theorem dJ {x:Str} (h:x∈(["","Done","done","whole","parties","acts","0","Any"]:List Str)):Wq 2 x:=⟨ro (GH x h).1,(GH x h).2.1,(GH x h).2.2.1,(GH x h).2.2.2⟩
theorem P8:Wq 1 ("3" : Str):=⟨.inr (.inl ⟨rfl,by decide +kernel,by decide +kernel,by decide +kernel⟩),by decide +kernel,by decide +kernel,by decide +kernel⟩
theorem ez:∀{ks:List Nat} {ws:List Str},Paired Wq ks ws→yC ks ws∧∀x∈ws,32∉x.cps.toList∧59∉x.cps.toList∧x.length≤8
 | _,_,.nil=>⟨.nil,fun _ z=>by cases z⟩
 | _,_,.cons r t=>⟨.cons r.rt (ez t).1,fun x hx=>(List.mem_cons.mp hx).elim (fun e=>by rw[e];exact⟨r.nb,r.fr,r.le⟩) ((ez t).2 x)⟩
structure we (x:Str):Prop where
 bad:Yb x
 HE:d6 x.cps.toList
 sh:x.length≤380
theorem jq {ks:List Nat} {ws:List Str} (h:Paired Wq ks ws) (hne:ws≠[]) (hl:ws.length≤20) (hT:uf ks=true) (hd:ws≠[("done" : Str)]) (hh:¬wd ws 0 = "parties"∧¬wd ws 0 = "acts"∨∀m,wa (ws.drop 1) m=false):we (qQ ws):=by
 obtain⟨r,hw⟩:=ez h
 exact⟨Xx hne (fun x hx=>(hw x hx).1) r hT hd hh,d6.free (vE fun x hx=>(hw x hx).2.1),Nat.le_trans (cW (fun x hx=>(hw x hx).2.2) hl) (by decide)⟩
theorem bZ {x:Str} (h:qw x=true):¬x = "parties"∧¬x = "acts":=by
 have h1:qw "parties" = false∧qw "acts" = false:=by decide +kernel
 exact⟨fun z=>(by rw[z,h1.1] at h;cases h),fun z=>(by rw[z,h1.2] at h;cases h)⟩
theorem XG {x:Str} (h:qw x=true):[x]≠[("done" : Str)]:=fun z=>by
 have h1:qw "done" = false:=by decide +kernel
 rw[(List.cons.inj z).1,h1] at h
 cases h
theorem tL (m:Int):wa [] m=false:=by simp [wa]
theorem YI {a b:Str} (ha:qw a=true) (hb:qw b=true):we ((Str.ofString "")):=by
 have e:(Str.ofString "")=qQ [("" : Str)]:=by
  refine qX ?_
  unfold qQ
  rw[join_eq]
  simp only[qv,L2.join_one,cps_append,Ys]
 rw[e]
 refine jq (ks:=[2]) (.cons (dJ (by simp)) .nil) (by simp) (by simp) (by decide) (fun z=>absurd (List.cons.inj z).1 (show ¬("" : Str) = "done" by decide +kernel)) (.inl (show ¬("" : Str) = "parties"∧¬("" : Str) = "acts" by decide +kernel))
theorem YE {a b:Str} (ha:qw a=true) (hb:qw b=true):we ((Str.ofString "may")):=by
 have e:(Str.ofString "may")=qQ [("may" : Str)]:=by
  refine qX ?_
  unfold qQ
  rw[join_eq]
  simp only[qv,L2.join_one,cps_append,Zz]
 rw[e]
 refine jq (ks:=[5]) (.cons (g9 (k:=2) rfl) .nil) (by simp) (by simp) (by decide) (fun z=>absurd (List.cons.inj z).1 (show ¬("may" : Str) = "done" by decide +kernel)) (.inl (show ¬("may" : Str) = "parties"∧¬("may" : Str) = "acts" by decide +kernel))
theorem YA {a b:Str} (ha:qw a=true) (hb:qw b=true):we (a):=by
 have e:a=qQ [a]:=by
  refine qX ?_
  unfold qQ
  rw[join_eq]
  simp only[qv,L2.join_one,cps_append]
 rw[e]
 refine jq (ks:=[0]) (.cons (m7 ha) .nil) (by simp) (by simp) (by decide) (XG ha) (.inl (bZ ha))
theorem Y0 {a b:Str} (ha:qw a=true) (hb:qw b=true):we ((Str.ofString "calm")):=by
 have e:(Str.ofString "calm")=qQ [("calm" : Str)]:=by
  refine qX ?_
  unfold qQ
  rw[join_eq]
  simp only[qv,L2.join_one,cps_append,Yo]
 rw[e]
 refine jq (ks:=[14]) (.cons (g9 (k:=11) rfl) .nil) (by simp) (by simp) (by decide) (fun z=>absurd (List.cons.inj z).1 (show ¬("calm" : Str) = "done" by decide +kernel)) (.inl (show ¬("calm" : Str) = "parties"∧¬("calm" : Str) = "acts" by decide +kernel))
theorem Y1 {a b:Str} (ha:qw a=true) (hb:qw b=true):we ((Str.ofString "calm ") ++ a ++ (Str.ofString " ") ++ b):=by
 have e:(Str.ofString "calm ") ++ a ++ (Str.ofString " ") ++ b=qQ [("calm" : Str),a,b]:=by
  refine qX ?_
  unfold qQ
  rw[join_eq]
  simp only[qv,L2.join_one,cps_append,VL,Yo,HZ]
  try simp
 rw[e]
 refine jq (ks:=[14,0,0]) (.cons (g9 (k:=11) rfl) (.cons (m7 ha) (.cons (m7 hb) .nil))) (by simp) (by simp) (by decide) (by simp) (.inl (show ¬("calm" : Str) = "parties"∧¬("calm" : Str) = "acts" by decide +kernel))
theorem Y2 {a b:Str} (ha:qw a=true) (hb:qw b=true):we ((Str.ofString "Done")):=by
 have e:(Str.ofString "Done")=qQ [("Done" : Str)]:=by
  refine qX ?_
  unfold qQ
  rw[join_eq]
  simp only[qv,L2.join_one,cps_append,Ho]
 rw[e]
 refine jq (ks:=[2]) (.cons (dJ (by simp)) .nil) (by simp) (by simp) (by decide) (fun z=>absurd (List.cons.inj z).1 (show ¬("Done" : Str) = "done" by decide +kernel)) (.inl (show ¬("Done" : Str) = "parties"∧¬("Done" : Str) = "acts" by decide +kernel))
theorem Y3 {a b:Str} (ha:qw a=true) (hb:qw b=true):we ((Str.ofString "done ")):=by
 have e:(Str.ofString "done ")=qQ [("done" : Str),("" : Str)]:=by
  refine qX ?_
  unfold qQ
  rw[join_eq]
  simp only[qv,L2.join_one,cps_append,Ys,Yi,HQ]
  try simp
 rw[e]
 refine jq (ks:=[2,2]) (.cons (dJ (by simp)) (.cons (dJ (by simp)) .nil)) (by simp) (by simp) (by decide) (by simp) (.inl (show ¬("done" : Str) = "parties"∧¬("done" : Str) = "acts" by decide +kernel))
theorem Y4 {a b:Str} (ha:qw a=true) (hb:qw b=true):we ((Str.ofString " done")):=by
 have e:(Str.ofString " done")=qQ [("" : Str),("done" : Str)]:=by
  refine qX ?_
  unfold qQ
  rw[join_eq]
  simp only[qv,L2.join_one,cps_append,Ys,Hm,Yi]
  try simp
 rw[e]
 refine jq (ks:=[2,2]) (.cons (dJ (by simp)) (.cons (dJ (by simp)) .nil)) (by simp) (by simp) (by decide) (by simp) (.inl (show ¬("" : Str) = "parties"∧¬("" : Str) = "acts" by decide +kernel))
theorem Y5 {a b:Str} (ha:qw a=true) (hb:qw b=true):we ((Str.ofString "let ") ++ a ++ (Str.ofString " be")):=by
 have e:(Str.ofString "let ") ++ a ++ (Str.ofString " be")=qQ [("let" : Str),a,("be" : Str)]:=by
  refine qX ?_
  unfold qQ
  rw[join_eq]
  simp only[qv,L2.join_one,cps_append,Pd,Xg,Xh,VT]
  try simp
 rw[e]
 refine jq (ks:=[10,0,11]) (.cons (g9 (k:=7) rfl) (.cons (m7 ha) (.cons (g9 (k:=8) rfl) .nil))) (by simp) (by simp) (by decide) (by simp) (.inl (show ¬("let" : Str) = "parties"∧¬("let" : Str) = "acts" by decide +kernel))
theorem Y6 {a b:Str} (ha:qw a=true) (hb:qw b=true):we ((Str.ofString "let ") ++ a ++ (Str.ofString " be Any")):=by
 have e:(Str.ofString "let ") ++ a ++ (Str.ofString " be Any")=qQ [("let" : Str),a,("be" : Str),("Any" : Str)]:=by
  refine qX ?_
  unfold qQ
  rw[join_eq]
  simp only[qv,L2.join_one,cps_append,Pc,Hn,Xg,Xh,VT]
  try simp
 rw[e]
 refine jq (ks:=[10,0,11,2]) (.cons (g9 (k:=7) rfl) (.cons (m7 ha) (.cons (g9 (k:=8) rfl) (.cons (dJ (by simp)) .nil)))) (by simp) (by simp) (by decide) (by simp) (.inl (show ¬("let" : Str) = "parties"∧¬("let" : Str) = "acts" by decide +kernel))
theorem K2 {a b:Str} (ha:qw a=true) (hb:qw b=true):we ((Str.ofString "part")):=by
 have e:(Str.ofString "part")=qQ [("part" : Str)]:=by
  refine qX ?_
  unfold qQ
  rw[join_eq]
  simp only[qv,L2.join_one,cps_append,iw]
 rw[e]
 refine jq (ks:=[12]) (.cons (g9 (k:=9) rfl) .nil) (by simp) (by simp) (by decide) (fun z=>absurd (List.cons.inj z).1 (show ¬("part" : Str) = "done" by decide +kernel)) (.inl (show ¬("part" : Str) = "parties"∧¬("part" : Str) = "acts" by decide +kernel))
theorem K3 {a b:Str} (ha:qw a=true) (hb:qw b=true):we ((Str.ofString "part whole")):=by
 have e:(Str.ofString "part whole")=qQ [("part" : Str),("whole" : Str)]:=by
  refine qX ?_
  unfold qQ
  rw[join_eq]
  simp only[qv,L2.join_one,cps_append,iw,HV,HW]
  try simp
 rw[e]
 refine jq (ks:=[12,2]) (.cons (g9 (k:=9) rfl) (.cons (dJ (by simp)) .nil)) (by simp) (by simp) (by decide) (by simp) (.inl (show ¬("part" : Str) = "parties"∧¬("part" : Str) = "acts" by decide +kernel))
theorem K4 {a b:Str} (ha:qw a=true) (hb:qw b=true):we ((Str.ofString "part parties")):=by
 have e:(Str.ofString "part parties")=qQ [("part" : Str),("parties" : Str)]:=by
  refine qX ?_
  unfold qQ
  rw[join_eq]
  simp only[qv,L2.join_one,cps_append,iw,HK,YZ]
  try simp
 rw[e]
 refine jq (ks:=[12,2]) (.cons (g9 (k:=9) rfl) (.cons (dJ (by simp)) .nil)) (by simp) (by simp) (by decide) (by simp) (.inl (show ¬("part" : Str) = "parties"∧¬("part" : Str) = "acts" by decide +kernel))
theorem K5 {a b:Str} (ha:qw a=true) (hb:qw b=true):we (a ++ (Str.ofString " any must ") ++ b ++ (Str.ofString " by 3 else ") ++ a):=by
 have e:a ++ (Str.ofString " any must ") ++ b ++ (Str.ofString " by 3 else ") ++ a=qQ [a,("any" : Str),("must" : Str),b,("by" : Str),("3" : Str),("else" : Str),a]:=by
  refine qX ?_
  unfold qQ
  rw[join_eq]
  simp only[qv,L2.join_one,cps_append,Pm,Hf,Ht,nu,Yn,Ye,Ya]
  try simp
 rw[e]
 refine jq (ks:=[0,3,4,0,7,1,8,0]) (.cons (m7 ha) (.cons (g9 (k:=0) rfl) (.cons (g9 (k:=1) rfl) (.cons (m7 hb) (.cons (g9 (k:=4) rfl) (.cons (P8) (.cons (g9 (k:=5) rfl) (.cons (m7 ha) .nil)))))))) (by simp) (by simp) (by decide) (by simp) (.inl (bZ ha))
theorem K6 {a b:Str} (ha:qw a=true) (hb:qw b=true):we ((Str.ofString "let ") ++ a ++ (Str.ofString " be any")):=by
 have e:(Str.ofString "let ") ++ a ++ (Str.ofString " be any")=qQ [("let" : Str),a,("be" : Str),("any" : Str)]:=by
  refine qX ?_
  unfold qQ
  rw[join_eq]
  simp only[qv,L2.join_one,cps_append,Pu,nu,Xg,Xh,VT]
  try simp
 rw[e]
 refine jq (ks:=[10,0,11,3]) (.cons (g9 (k:=7) rfl) (.cons (m7 ha) (.cons (g9 (k:=8) rfl) (.cons (g9 (k:=0) rfl) .nil)))) (by simp) (by simp) (by decide) (by simp) (.inl (show ¬("let" : Str) = "parties"∧¬("let" : Str) = "acts" by decide +kernel))
theorem K7 {a b:Str} (ha:qw a=true) (hb:qw b=true):we (a ++ (Str.ofString " any may any")):=by
 have e:a ++ (Str.ofString " any may any")=qQ [a,("any" : Str),("may" : Str),("any" : Str)]:=by
  refine qX ?_
  unfold qQ
  rw[join_eq]
  simp only[qv,L2.join_one,cps_append,Pf,nu,Zz]
  try simp
 rw[e]
 refine jq (ks:=[0,3,5,3]) (.cons (m7 ha) (.cons (g9 (k:=0) rfl) (.cons (g9 (k:=2) rfl) (.cons (g9 (k:=0) rfl) .nil)))) (by simp) (by simp) (by decide) (by simp) (.inl (bZ ha))
theorem K8 {a b:Str} (ha:qw a=true) (hb:qw b=true):we ((Str.ofString "let any be ") ++ a):=by
 have e:(Str.ofString "let any be ") ++ a=qQ [("let" : Str),("any" : Str),("be" : Str),a]:=by
  refine qX ?_
  unfold qQ
  rw[join_eq]
  simp only[qv,L2.join_one,cps_append,nu,Xg,Xh,HJ]
  try simp
 rw[e]
 refine jq (ks:=[10,3,11,0]) (.cons (g9 (k:=7) rfl) (.cons (g9 (k:=0) rfl) (.cons (g9 (k:=8) rfl) (.cons (m7 ha) .nil)))) (by simp) (by simp) (by decide) (by simp) (.inl (show ¬("let" : Str) = "parties"∧¬("let" : Str) = "acts" by decide +kernel))
theorem K9 {a b:Str} (ha:qw a=true) (hb:qw b=true):we ((Str.ofString "part any")):=by
 have e:(Str.ofString "part any")=qQ [("part" : Str),("any" : Str)]:=by
  refine qX ?_
  unfold qQ
  rw[join_eq]
  simp only[qv,L2.join_one,cps_append,nu,iw,HX]
  try simp
 rw[e]
 refine jq (ks:=[12,3]) (.cons (g9 (k:=9) rfl) (.cons (g9 (k:=0) rfl) .nil)) (by simp) (by simp) (by decide) (by simp) (.inl (show ¬("part" : Str) = "parties"∧¬("part" : Str) = "acts" by decide +kernel))
theorem Vz {a b:Str} (ha:qw a=true) (hb:qw b=true):we ((Str.ofString "any ") ++ a ++ (Str.ofString " may ") ++ b):=by
 have e:(Str.ofString "any ") ++ a ++ (Str.ofString " may ") ++ b=qQ [("any" : Str),a,("may" : Str),b]:=by
  refine qX ?_
  unfold qQ
  rw[join_eq]
  simp only[qv,L2.join_one,cps_append,Hu,nu,Ha,Zz]
  try simp
 rw[e]
 refine jq (ks:=[3,0,5,0]) (.cons (g9 (k:=0) rfl) (.cons (m7 ha) (.cons (g9 (k:=2) rfl) (.cons (m7 hb) .nil)))) (by simp) (by simp) (by decide) (by simp) (.inl (show ¬("any" : Str) = "parties"∧¬("any" : Str) = "acts" by decide +kernel))
theorem Vq {a b:Str} (ha:qw a=true) (hb:qw b=true):we ((Str.ofString "part ") ++ a ++ (Str.ofString " in any")):=by
 have e:(Str.ofString "part ") ++ a ++ (Str.ofString " in any")=qQ [("part" : Str),a,("in" : Str),("any" : Str)]:=by
  refine qX ?_
  unfold qQ
  rw[join_eq]
  simp only[qv,L2.join_one,cps_append,Hd,nu,VS,iw,VN]
  try simp
 rw[e]
 refine jq (ks:=[12,0,13,3]) (.cons (g9 (k:=9) rfl) (.cons (m7 ha) (.cons (g9 (k:=10) rfl) (.cons (g9 (k:=0) rfl) .nil)))) (by simp) (by simp) (by decide) (by simp) (.inl (show ¬("part" : Str) = "parties"∧¬("part" : Str) = "acts" by decide +kernel))
theorem Vj {a b:Str} (ha:qw a=true) (hb:qw b=true):we (a ++ (Str.ofString " ") ++ b ++ (Str.ofString " must ") ++ b ++ (Str.ofString " by 0 else ") ++ a):=by
 have e:a ++ (Str.ofString " ") ++ b ++ (Str.ofString " must ") ++ b ++ (Str.ofString " by 0 else ") ++ a=qQ [a,b,("must" : Str),b,("by" : Str),("0" : Str),("else" : Str),a]:=by
  refine qX ?_
  unfold qQ
  rw[join_eq]
  simp only[qv,L2.join_one,cps_append,VL,Pl,Hr,Hs,Yn,Ye,Ya]
  try simp
 rw[e]
 refine jq (ks:=[0,0,4,0,7,2,8,0]) (.cons (m7 ha) (.cons (m7 hb) (.cons (g9 (k:=1) rfl) (.cons (m7 hb) (.cons (g9 (k:=4) rfl) (.cons (dJ (by simp)) (.cons (g9 (k:=5) rfl) (.cons (m7 ha) .nil)))))))) (by simp) (by simp) (by decide) (by simp) (.inl (bZ ha))
theorem Vx {a b:Str} (ha:qw a=true) (hb:qw b=true):we (a ++ (Str.ofString " ") ++ b ++ (Str.ofString " may")):=by
 have e:a ++ (Str.ofString " ") ++ b ++ (Str.ofString " may")=qQ [a,b,("may" : Str)]:=by
  refine qX ?_
  unfold qQ
  rw[join_eq]
  simp only[qv,L2.join_one,cps_append,VL,Hc,Zz]
  try simp
 rw[e]
 refine jq (ks:=[0,0,5]) (.cons (m7 ha) (.cons (m7 hb) (.cons (g9 (k:=2) rfl) .nil))) (by simp) (by simp) (by decide) (by simp) (.inl (bZ ha))
theorem Vk {a b:Str} (ha:qw a=true) (hb:qw b=true):we (a ++ (Str.ofString " all may ") ++ b ++ (Str.ofString " x")):=by
 have e:a ++ (Str.ofString " all may ") ++ b ++ (Str.ofString " x")=qQ [a,("all" : Str),("may" : Str),b,("x" : Str)]:=by
  refine qX ?_
  unfold qQ
  rw[join_eq]
  simp only[qv,L2.join_one,cps_append,Pp,Hl,He,Zz,HY]
  try simp
 rw[e]
 refine jq (ks:=[0,0,5,0,0]) (.cons (m7 ha) (.cons (m7 (show qw ("all" : Str)=true by decide +kernel)) (.cons (g9 (k:=2) rfl) (.cons (m7 hb) (.cons (m7 (show qw ("x" : Str)=true by decide +kernel)) .nil))))) (by simp) (by simp) (by decide) (by simp) (.inl (bZ ha))
theorem Vv {a b:Str} (ha:qw a=true) (hb:qw b=true):we ((Str.ofString "part ") ++ a ++ (Str.ofString " in")):=by
 have e:(Str.ofString "part ") ++ a ++ (Str.ofString " in")=qQ [("part" : Str),a,("in" : Str)]:=by
  refine qX ?_
  unfold qQ
  rw[join_eq]
  simp only[qv,L2.join_one,cps_append,Yt,VS,iw,VN]
  try simp
 rw[e]
 refine jq (ks:=[12,0,13]) (.cons (g9 (k:=9) rfl) (.cons (m7 ha) (.cons (g9 (k:=10) rfl) .nil))) (by simp) (by simp) (by decide) (by simp) (.inl (show ¬("part" : Str) = "parties"∧¬("part" : Str) = "acts" by decide +kernel))
theorem Vy {a b:Str} (ha:qw a=true) (hb:qw b=true):we ((Str.ofString "parties")):=by
 have e:(Str.ofString "parties")=qQ [("parties" : Str)]:=by
  refine qX ?_
  unfold qQ
  rw[join_eq]
  simp only[qv,L2.join_one,cps_append,YZ]
 rw[e]
 refine jq (ks:=[2]) (.cons (dJ (by simp)) .nil) (by simp) (by simp) (by decide) (fun z=>absurd (List.cons.inj z).1 (show ¬("parties" : Str) = "done" by decide +kernel)) (.inr fun m=>tL m)
theorem Vg {a b:Str} (ha:qw a=true) (hb:qw b=true):we ((Str.ofString "acts")):=by
 have e:(Str.ofString "acts")=qQ [("acts" : Str)]:=by
  refine qX ?_
  unfold qQ
  rw[join_eq]
  simp only[qv,L2.join_one,cps_append,Hi]
 rw[e]
 refine jq (ks:=[2]) (.cons (dJ (by simp)) .nil) (by simp) (by simp) (by decide) (fun z=>absurd (List.cons.inj z).1 (show ¬("acts" : Str) = "done" by decide +kernel)) (.inr fun m=>tL m)
theorem Vh {a b:Str} (ha:qw a=true) (hb:qw b=true):we (a ++ (Str.ofString "  any may ") ++ b):=by
 have e:a ++ (Str.ofString "  any may ") ++ b=qQ [a,("" : Str),("any" : Str),("may" : Str),b]:=by
  refine qX ?_
  unfold qQ
  rw[join_eq]
  simp only[qv,L2.join_one,cps_append,Ys,Pb,nu,Zz]
  try simp
 rw[e]
 refine jq (ks:=[0,2,3,5,0]) (.cons (m7 ha) (.cons (dJ (by simp)) (.cons (g9 (k:=0) rfl) (.cons (g9 (k:=2) rfl) (.cons (m7 hb) .nil))))) (by simp) (by simp) (by decide) (by simp) (.inl (bZ ha))
section
variable {P:Program} {w:World} {K:PySem.W.Frag} {mg:Str→Option Value} {base:Heap} {t:xj}
end
theorem YO {ks:List Nat} (h:2∈ks):uf ks=true:=by
 have hf:∀ps:List Nat,ps.all (fun p=>!nK 2 p)=true→∀{ks:List Nat},2∈ks→jr ks ps=false:=fun ps hp ks h=>by
  cases q:jr ks ps with
  | false=>rfl
  | true=>
   exfalso
   unfold jr at q
   rw[Bool.and_eq_true] at q
   obtain⟨q1,q2⟩:=q
   have q1':ks.length=ps.length:=of_decide_eq_true q1
   obtain⟨i,hi,e⟩:=List.mem_iff_getElem.mp h
   have hm:(2,ps[i]'(by omega))∈ks.zip ps:=List.mem_iff_getElem.mpr ⟨i,by rw[List.length_zip];omega,by rw[List.getElem_zip,e]⟩
   have h1:=List.all_eq_true.mp q2 _ hm
   have h2:=List.all_eq_true.mp hp _ (List.getElem_mem (show i < ps.length by omega))
   dsimp only at h1
   rw[h1] at h2
   cases h2
 have hp:fQ ks=false:=by
  cases q:fQ ks with
  | false=>rfl
  | true=>
   exfalso
   unfold fQ at q
   rw[Bool.and_eq_true,Bool.or_eq_true,Bool.and_eq_true,Bool.and_eq_true] at q
   obtain⟨q1,q2⟩:=q
   have h1:2∉ks.take 2:=fun z=>by rw[hf ua (by decide) z] at q1;cases q1
   have h2:2∈ks.drop 2:=by
    rw[←List.take_append_drop 2 ks] at h
    exact(List.mem_append.mp h).resolve_left h1
   rcases q2 with q2 | ⟨q2,q3,q4⟩
   ·have:ks.length=2:=beq_iff_eq.mp q2
    rw[List.drop_eq_nil_of_le (by omega)] at h2
    cases h2
   ·match ks,h2,q2,q4 with
    | _ :: _ :: c :: r,h2,q2,q4=>
     have q2':c=13:=beq_iff_eq.mp q2
     (rcases List.mem_cons.mp h2 with e | e)
     ·omega
     ·have:=beq_iff_eq.mp (List.all_eq_true.mp q4 2 e)
      cases this
 have hr:uK ks=false:=by
  cases q:uK ks with
  | false=>rfl
  | true=>
   exfalso
   unfold uK at q
   rw[Bool.and_eq_true,Bool.and_eq_true,Bool.and_eq_true] at q
   obtain⟨⟨q1,q2,q3⟩,q4⟩:=q
   match ks,q1,q2,q4 with
   | [a,b],_,q2,q4=>
    have q2':14≤a:=of_decide_eq_true q2
    have q4':b=0:=beq_iff_eq.mp q4
    simp only[List.mem_cons,List.not_mem_nil,or_false] at h
    omega
 unfold uf
 rw[hf fZ (by decide) h,hf gJ (by decide) h,hf sP (by decide) h,hf pW (by decide) h,hf Zi (by decide) h,hp,hr]
 rfl
theorem XC (x:Str):0≤vC x:=by
 unfold vC
 split
 ·omega
 ·decide
theorem Xe (x:Str):∃k,Rt k x:=by
 by_cases h:qw x=true
 ·exact⟨0,.inl ⟨rfl,h⟩⟩
 have hn:qw x=false:=by cases q:qw x with | false=>rfl | true=>exact absurd q h
 by_cases hl:x∈lits
 ·obtain⟨i,e⟩:=List.mem_iff_getElem?.mp hl
  exact⟨i + 3,rl e⟩
 by_cases hv:vC x=0
 ·exact⟨2,.inr (.inr (.inl ⟨rfl,hn,hv,hl⟩))⟩
 ·exact⟨1,.inr (.inl ⟨rfl,hn,by have:=XC x;omega,hl⟩)⟩
theorem kinds_of:∀ws:List Str,∃ks,yC ks ws
 | []=>⟨[],.nil⟩
 | x :: r=>by
  obtain⟨k,hk⟩:=Xe x
  obtain⟨ks,hs⟩:=kinds_of r
  exact⟨k :: ks,.cons hk hs⟩
structure Ow (x:Str):Prop where
 n:qw x=false
 v:vC x=0
 l:x∉lits
 p:¬x = "parties"
 a:¬x = "acts"
 d:¬x = "done"
theorem Ow.two {x:Str} {k:Nat} (h:Ow x) (r:Rt k x):k=2:=by
 rcases r with ⟨_,z⟩ | ⟨_,_,z,_⟩ | ⟨z,_⟩ | ⟨_,z⟩
 ·rw[h.n] at z;cases z
 ·rw[h.v] at z;omega
 ·exact z
 ·exact absurd (List.mem_of_getElem? z) h.l
theorem aU:∀{ks:List Nat} {ws:List Str} {x:Str},yC ks ws→x∈ws→Ow x→2∈ks
 | _,_,_,.nil,hx,_=>by cases hx
 | _,_,x,.cons r t,hx,ho=>by
  (rcases List.mem_cons.mp hx with rfl | hx)
  ·rw[ho.two r];exact List.mem_cons_self
  ·exact List.mem_cons_of_mem _ (aU t hx ho)
theorem eW {ws:List Str} {x:Str} (hb:∀y∈ws,32∉y.cps.toList) (hx:x∈ws) (ho:Ow x):Yb (qQ ws):=by
 have hne:ws≠[]:=fun z=>by rw[z] at hx;cases hx
 obtain⟨ks,r⟩:=kinds_of ws
 have hs:=oR hne hb
 have hh:∀y,¬x=y→∀m,jV (xJ (qQ ws)) y m=[]:=fun y hy m=>by
  by_cases q:wd ws 0=y
  ·refine du hs ?_
   cases z:wa (ws.drop 1) m with
   | false=>rfl
   | true=>
    exfalso
    unfold wa at z
    rw[Bool.and_eq_true] at z
    match ws,q,hx,z with
    | a :: r,q,hx,z=>
     have q':a=y:=q
     (rcases List.mem_cons.mp hx with e | e)
     ·exact hy (e.trans q')
     ·have:=List.all_eq_true.mp z.2 x e
      rw[ho.n] at this
      cases this
  ·exact kI hs q
 refine Qv (ks:=ks) (by rw[hs];exact r) (YO (aU r hx ho)) (fun z=>?_) (hh _ ho.p _) (hh _ ho.a _)
 have e:xJ "done" = [("done" : Str)]:=by decide +kernel
 rw[z,e] at hs
 rw[←hs] at hx
 exact ho.d (List.mem_singleton.mp hx)
theorem Kb:59∉kz.cps.toList∧59∉("parties" : Str).cps.toList∧59∉("acts" : Str).cps.toList∧59∉("done" : Str).cps.toList:=by decide +kernel
theorem XT {x:Str} (h:59∈x.cps.toList):Ow x:=by
 obtain⟨s1,s2,s3,s4⟩:=Kb
 refine⟨?_,?_,fun z=>(yQ x z).1 h,fun z=>s2 (by rw[←z];exact h),fun z=>s3 (by rw[←z];exact h),fun z=>s4 (by rw[←z];exact h)⟩
 ·cases q:qw x with
  | false=>rfl
  | true=>exact absurd h (qU q)
 ·unfold vC
  refine if_neg fun q=>?_
  exact s1 ((m8 q.1).2.2 59 h)
theorem Wo:Ow ("" : Str):=by
 have h:=(GH "" (by simp)).1
 have h2:¬("" : Str) = "parties"∧¬("" : Str) = "acts"∧¬("" : Str) = "done":=by decide +kernel
 exact⟨h.1,h.2.1,h.2.2,h2.1,h2.2.1,h2.2.2⟩
structure Gd (x:Str):Prop where
 w:∃ws:List Str,ws≠[]∧x=qQ ws∧∀y∈ws,32∉y.cps.toList∧59∉y.cps.toList∧y≠""
 sh:x.length≤180
theorem Jf (A:List Str) (u s v:Str) (B:List Str):qQ (A ++ [u]) ++ s ++ qQ (v :: B)=qQ (A ++ [u ++ s ++ v] ++ B):=by
 have hd:∀(v:Str) (B:List Str),∃R,∀z:Str,(qQ ((z ++ v) :: B)).cps.toList=z.cps.toList ++ (v.cps.toList ++ R):=fun v B=>by
  cases B with
  | nil=>exact⟨[],fun z=>by unfold qQ;rw[join_eq,L2.join_one,cps_append,List.append_nil]⟩
  | cons y r=>exact⟨32 :: (qQ (y :: r)).cps.toList,fun z=>by unfold qQ;rw[join_eq,join_eq,qv,cps_append,List.append_assoc]⟩
 have key:∀A:List Str,(qQ (A ++ [u]) ++ s ++ qQ (v :: B)).cps.toList=(qQ (A ++ [u ++ s ++ v] ++ B)).cps.toList:=by
  obtain⟨R,hR⟩:=hd v B
  have e0:(qQ (v :: B)).cps.toList=v.cps.toList ++ R:=by
   have:=hR ""
   rw[show ("" : Str) ++ v=v from qX (by rw[cps_append];rfl)] at this
   rw[this];rfl
  intro A
  induction A with
  | nil=>
   rw[List.nil_append,List.nil_append,List.singleton_append,hR (u ++ s),cps_append,cps_append,e0]
   show (qQ [u]).cps.toList ++ _ ++ _=_
   unfold qQ
   rw[join_eq,L2.join_one,cps_append]
  | cons a A ih=>
   cases A with
   | nil=>
    rw[cps_append,cps_append] at ih ⊢
    simp only[List.nil_append,List.cons_append,List.singleton_append] at ih ⊢
    unfold qQ at ih ⊢
    rw[join_eq,join_eq,join_eq] at *
    rw[qv,qv,List.append_assoc,List.append_assoc,List.cons_append,←ih]
    simp
   | cons a2 A=>
    rw[cps_append,cps_append] at ih ⊢
    simp only[List.cons_append] at ih ⊢
    unfold qQ at ih ⊢
    rw[join_eq,join_eq,join_eq] at *
    rw[qv,qv,List.append_assoc,List.append_assoc,List.cons_append,←ih]
    simp
 exact qX (key A)
section
variable {P:Program} {w:World} {K:PySem.W.Frag} {mg:Str→Option Value} {base:Heap} {t:xj}
end
theorem ZQ {ws:List Str} (h:ws≠[]):Str.ofString " " ++ qQ ws=qQ ("" :: ws):=by
 match ws,h with
 | a :: r,_=>
  refine qX ?_
  unfold qQ
  rw[join_eq,join_eq,qv,cps_append,VL]
  rfl
theorem aX:∀{ws:List Str},ws≠[]→qQ ws ++ Str.ofString " " = qQ (ws ++ [("" : Str)])
 | [],h=>absurd rfl h
 | [a],_=>by
  refine qX ?_
  rw[cps_append,VL]
  unfold qQ
  rw[List.singleton_append,join_eq,join_eq,qv,L2.join_one,L2.join_one]
  rfl
 | a :: b :: r,_=>by
  have ih:=congrArg (fun z:Str=>z.cps.toList) (aX (ws:=b :: r) (by simp))
  refine qX ?_
  skip
  rw[cps_append,VL] at ih ⊢
  unfold qQ at ih ⊢
  rw[join_eq,join_eq] at *
  rw[List.cons_append] at ih
  rw[List.cons_append,List.cons_append,qv,qv,←ih]
  simp
theorem vJ:∀x∈lits,x≠"":=by decide +kernel
theorem YW:∀x∈(["done","parties","acts","calm","sore","end"]:List Str),x≠"":=by decide +kernel
theorem j5 {x:Str} (h:qw x=true):x≠"":=fun z=>by
 have:qw "" = false:=by decide +kernel
 rw[z,this] at h
 cases h
theorem tP {u:Str} (h:oE u):u≠"":=by
 rcases h with h | rfl
 ·exact j5 h
 ·exact vJ _ (by simp [lits])
theorem Ew.nn {e:Ew} (h:e.ok):∀x∈e.ws,x≠"":=by
 intro x hx z
 cases e with
 | lt a b=>
  simp only[Ew.ws,List.mem_cons,List.not_mem_nil,or_false] at hx
  rcases hx with e | e | e | e
  ·exact vJ _ (by simp [lits]) (e.symm.trans z)
  ·exact j5 h.1 (e.symm.trans z)
  ·exact vJ _ (by simp [lits]) (e.symm.trans z)
  ·exact j5 h.2 (e.symm.trans z)
 | mu l w a n r=>
  simp only[Ew.ws,List.mem_cons,List.not_mem_nil,or_false] at hx
  rcases hx with e | e | e | e | e | e | e | e
  ·exact j5 h.1 (e.symm.trans z)
  ·exact j5 h.2.1 (e.symm.trans z)
  ·exact vJ _ (by simp [lits]) (e.symm.trans z)
  ·exact j5 h.2.2.1 (e.symm.trans z)
  ·exact vJ _ (by simp [lits]) (e.symm.trans z)
  ·have h1:=(cX h.2.2.2.1 h.2.2.2.2.1).2.1
   rw[←e,z,show vC "" = 0 by decide +kernel] at h1
   have:=h.2.2.2.1
   omega
  ·exact vJ _ (by simp [lits]) (e.symm.trans z)
  ·exact j5 h.2.2.2.2.2 (e.symm.trans z)
 | my l w a=>
  simp only[Ew.ws,List.mem_cons,List.not_mem_nil,or_false] at hx
  rcases hx with e | e | e | e
  ·exact j5 h.1 (e.symm.trans z)
  ·exact tP h.2.1 (e.symm.trans z)
  ·exact vJ _ (by simp [lits]) (e.symm.trans z)
  ·exact j5 h.2.2 (e.symm.trans z)
 | bn l w a r=>
  simp only[Ew.ws,List.mem_cons,List.not_mem_nil,or_false] at hx
  rcases hx with e | e | e | e | e | e | e
  ·exact j5 h.1 (e.symm.trans z)
  ·exact tP h.2.1 (e.symm.trans z)
  ·exact vJ _ (by simp [lits]) (e.symm.trans z)
  ·exact vJ _ (by simp [lits]) (e.symm.trans z)
  ·exact j5 h.2.2.1 (e.symm.trans z)
  ·exact vJ _ (by simp [lits]) (e.symm.trans z)
  ·exact j5 h.2.2.2 (e.symm.trans z)
 | pw l w a r=>
  simp only[Ew.ws,List.mem_cons,List.not_mem_nil,or_false] at hx
  rcases hx with e | e | e | e | e | e
  ·exact j5 h.1 (e.symm.trans z)
  ·exact tP h.2.1 (e.symm.trans z)
  ·exact vJ _ (by simp [lits]) (e.symm.trans z)
  ·exact j5 h.2.2.1 (e.symm.trans z)
  ·exact vJ _ (by simp [lits]) (e.symm.trans z)
  ·exact j5 h.2.2.2 (e.symm.trans z)
 | dn=>exact YW x (by rw[List.mem_singleton.mp hx];simp) z
 | pt n rs=>
  have key:x∈(["part",n,"in"]:List Str) ++ rs:=by
   cases rs with
   | nil=>simp only[Ew.ws,List.mem_cons,List.not_mem_nil,or_false] at hx;simp;rcases hx with e | e<;>simp [e]
   | cons y r=>exact hx
  rcases List.mem_append.mp key with e | e
  ·simp only[List.mem_cons,List.not_mem_nil,or_false] at e
   rcases e with e | e | e
   ·exact vJ _ (by simp [lits]) (e.symm.trans z)
   ·exact j5 h.1 (e.symm.trans z)
   ·exact vJ _ (by simp [lits]) (e.symm.trans z)
  ·exact j5 (h.2.1 x e) z
theorem di (x y:Str) (r:List Str):∃R,(qQ (x :: y :: r)).cps.toList=x.cps.toList ++ 32 :: R:=⟨_,by unfold qQ;rw[join_eq,qv]⟩
theorem sq {x:Str} {ns:List Str} (hx:x∈(["done","parties","acts"]:List Str)) (hn:∀y∈ns,qw y=true) (hl:ns.length≤6):Gd (qQ (x :: ns)):=by
 have hb:∀x∈(["done","parties","acts"]:List Str),32∉x.cps.toList∧x≠"":=by decide +kernel
 refine⟨⟨x :: ns,by simp,rfl,fun y hy=>?_⟩,(cc hx hn hl).sh⟩
 (rcases List.mem_cons.mp hy with rfl | hy)
 ·exact⟨(hb _ hx).1,(dy _ hx).1,(hb _ hx).2⟩
 ·exact⟨yg (hn y hy),qU (hn y hy),j5 (hn y hy)⟩
theorem Xu {ps as:List Str} {qK:List (Str × Str)} {evs:List Ew} (h:GB ps as qK) (he:∀e∈evs,e.ok):∀x∈rowsOf ps as qK evs,Gd x:=by
 intro x hx
 unfold rowsOf at hx
 (rcases List.mem_cons.mp hx with rfl | hx)
 ·exact sq (by simp) h.pn (by have:=h.p2;omega)
 (rcases List.mem_cons.mp hx with rfl | hx)
 ·exact sq (by simp) h.an (by have:=h.a2;omega)
 (rcases List.mem_append.mp hx with hx | hx)
 ·obtain⟨mn,hmn,rfl⟩:=List.mem_map.mp hx
  have hm:=h.rn mn hmn
  have g:=mJ _ hm.1
  have hmk:∀x∈jT,x≠"":=by decide +kernel
  refine⟨⟨[mn.1,mn.2],by simp,rfl,fun y hy=>?_⟩,(Jb hm).sh⟩
  simp only[List.mem_cons,List.not_mem_nil,or_false] at hy
  rcases hy with rfl | rfl
  ·exact⟨g.1,g.2.1,hmk _ hm.1⟩
  ·exact⟨yg hm.2,qU hm.2,j5 hm.2⟩
 ·obtain⟨e,hee,rfl⟩:=List.mem_map.mp hx
  have ho:=he e hee
  exact⟨⟨e.ws,e.ne,rfl,fun y hy=>⟨(Ew.wk ho y hy).1.nb,Ew.free ho y hy,Ew.nn ho y hy⟩⟩,(Ew.Kv ho).sh⟩
theorem sg (x:Str):x.length=x.cps.toList.length:=by simp [Str.length]
theorem len_app (x y:Str):(x ++ y).length=x.length + y.length:=by rw[sg,sg,sg,cps_append,List.length_append]
theorem d6.app {l r:List Nat} (hl:59∉l) (hr:59∉r) (hh:r.head?≠some 32):d6 (l ++ 59 :: r):=by
 intro j e1 e2
 by_cases q:j < l.length
 ·rw[List.getElem?_append_left q] at e1
  exact hl (List.mem_of_getElem? e1)
 ·rw[List.getElem?_append_right (by omega)] at e1 e2
  by_cases z:j=l.length
  ·rw[show j + 1 - l.length=0 + 1 by omega,List.getElem?_cons_succ] at e2
   rw[List.head?_eq_getElem?] at hh
   exact hh e2
  ·obtain⟨m,hm⟩:∃m,j - l.length=m + 1:=⟨j - l.length - 1,by omega⟩
   rw[hm,List.getElem?_cons_succ] at e1
   exact hr (List.mem_of_getElem? e1)
theorem Gd.no {x:Str} (h:Gd x):59∉x.cps.toList:=by
 obtain⟨ws,_,rfl,hw⟩:=h.w
 exact vE fun y hy=>(hw y hy).2.1
theorem Gd.hd {x:Str} (h:Gd x):x.cps.toList.head?≠some 32:=by
 obtain⟨ws,hne,rfl,hw⟩:=h.w
 match ws,hne,hw with
 | a :: r,_,hw=>
  obtain⟨h1,_,h3⟩:=hw a List.mem_cons_self
  have hc:∃c l,a.cps.toList=c :: l:=by
   cases q:a.cps.toList with
   | nil=>exact absurd (qX (q.trans Ys.symm)) h3
   | cons c l=>exact⟨c,l,rfl⟩
  obtain⟨c,l,hc⟩:=hc
  have hm:(qQ (a :: r)).cps.toList.head?=some c:=by
   cases r with
   | nil=>unfold qQ;rw[join_eq,L2.join_one,hc];rfl
   | cons b r=>obtain⟨R,e⟩:=di a b r;rw[e,hc];rfl
  rw[hm]
  intro z
  cases z
  exact h1 (by rw[hc];exact List.mem_cons_self)
theorem GR:(Str.ofString ";").cps.toList=[59]:=by decide +kernel
theorem Pt:(Str.ofString ";done").cps.toList=59 :: ("done" : Str).cps.toList:=by decide +kernel
theorem nA {x y:Str} (hx:Gd x) (hy:Gd y):we (x ++ Str.ofString ";" ++ y):=by
 have n1:=hx.no;have n2:=hy.no;have n3:=hy.hd
 have l1:=hx.sh;have l2:=hy.sh
 have hn:d6 (x ++ Str.ofString ";" ++ y).cps.toList:=by
  rw[cps_append,cps_append,GR,List.append_assoc]
  exact d6.app n1 n2 n3
 have hl:(x ++ Str.ofString ";" ++ y).length≤380:=by
  have:(Str.ofString ";").length=1:=by decide +kernel
  rw[len_app,len_app,this];omega
 refine⟨?_,hn,hl⟩
 obtain⟨ws,hne,rfl,hw⟩:=hx.w
 obtain⟨vs,hne2,rfl,hv⟩:=hy.w
 obtain⟨A,u,rfl⟩:∃A u,ws=A ++ [u]:=⟨ws.dropLast,ws.getLast hne,(List.dropLast_concat_getLast hne).symm⟩
 match vs,hne2,hv with
 | v :: B,_,hv=>
  rw[Jf]
  refine eW (x:=u ++ Str.ofString ";" ++ v) (fun z hz=>?_) (by simp) (XT (by rw[cps_append,cps_append,GR];simp))
  (rcases List.mem_append.mp hz with hz | hz)
  ·(rcases List.mem_append.mp hz with hz | hz)
   ·exact(hw z (List.mem_append_left _ hz)).1
   ·rw[List.mem_singleton.mp hz,cps_append,cps_append,GR]
    intro q
    simp only[List.mem_append,List.mem_singleton] at q
    rcases q with (q | q) | q
    ·exact(hw u (by simp)).1 q
    ·cases q
    ·exact(hv v (by simp)).1 q
  ·exact(hv z (List.mem_cons_of_mem _ hz)).1
theorem Xc:Gd ("done" : Str):=by
 have:=sq (x:="done") (ns:=[]) (by simp) (fun _ z=>by cases z) (by simp)
 have e:qQ [("done" : Str)] = "done":=by unfold qQ;rw[join_eq,L2.join_one]
 rw[e] at this
 exact this
theorem Vf {x:Str} (hx:Gd x):we (x ++ Str.ofString ";done"):=by
 have:=nA hx Xc
 have e:x ++ Str.ofString ";" ++ ("done" : Str)=x ++ Str.ofString ";done":=qX (by rw[cps_append,cps_append,cps_append,GR,Pt];simp)
 rw[e] at this
 exact this
theorem ly {x:Str} {ws:List Str} (e:x=qQ ws) (hm:("" : Str)∈ws) (hb:∀y∈ws,32∉y.cps.toList∧59∉y.cps.toList) (hl:x.length≤380):we x:=by
 subst e
 exact⟨eW (fun y hy=>(hb y hy).1) hm Wo,d6.free (vE fun y hy=>(hb y hy).2),hl⟩
theorem nO:32∉("" : Str).cps.toList∧59∉("" : Str).cps.toList:=by decide +kernel
theorem Vb {x:Str} (hx:Gd x):we (x ++ Str.ofString " "):=by
 have l1:=hx.sh
 have hl:(x ++ Str.ofString " ").length≤380:=by
  have:(Str.ofString " ").length=1:=by decide +kernel
  rw[len_app,this];omega
 obtain⟨ws,hne,e,hw⟩:=hx.w
 refine ly (ws:=ws ++ [("" : Str)]) (by rw[e,aX hne]) (by simp) (fun y hy=>?_) hl
 (rcases List.mem_append.mp hy with hy | hy)
 ·exact⟨(hw y hy).1,(hw y hy).2.1⟩
 ·rw[List.mem_singleton.mp hy];exact nO
theorem Vp {x:Str} (hx:Gd x):we (Str.ofString " " ++ x):=by
 have l1:=hx.sh
 have hl:(Str.ofString " " ++ x).length≤380:=by
  have:(Str.ofString " ").length=1:=by decide +kernel
  rw[len_app,this];omega
 obtain⟨ws,hne,e,hw⟩:=hx.w
 refine ly (ws:=("" : Str) :: ws) (by rw[e,ZQ hne]) (by simp) (fun y hy=>?_) hl
 (rcases List.mem_cons.mp hy with rfl | hy)
 ·exact nO
 ·exact⟨(hw y hy).1,(hw y hy).2.1⟩
theorem eG (x:Array Nat):∀(n:Nat) (a:Array Nat),((List.replicate n x).foldl (· ++ ·) a).toList=a.toList ++ (List.replicate n x.toList).flatten
 | 0,a=>by simp
 | n + 1,a=>by
  rw[List.replicate_succ,List.foldl_cons,eG x n,List.replicate_succ,List.flatten_cons,Array.toList_append,List.append_assoc]
theorem aK (b:Str) (h:b.cps.toList.length≠0∨True):∀(n:Nat) (x:Str),(qQ (x :: List.replicate n b)).cps.toList=x.cps.toList ++ (List.replicate n (32 :: b.cps.toList)).flatten
 | 0,x=>by
  show (qQ [x]).cps.toList=_
  unfold qQ
  rw[join_eq,L2.join_one]
  simp
 | n + 1,x=>by
  have ih:=aK b h n b
  rw[List.replicate_succ]
  unfold qQ at ih ⊢
  rw[join_eq] at ih ⊢
  rw[qv,ih,List.replicate_succ,List.flatten_cons]
  simp
theorem Wh (b:Str):(Txt.mul (Str.ofString " " ++ b) 13).cps.toList=(List.replicate 13 (32 :: b.cps.toList)).flatten:=by
 unfold Txt.mul
 have hl:((13:Int) == 1 || (Str.ofString " " ++ b).length == 0)=false:=by
  have:(Str.ofString " ").length=1:=by decide +kernel
  rw[len_app,this,Bool.or_eq_false_iff]
  refine⟨by decide,?_⟩
  rw[beq_eq_false_iff_ne]
  omega
 rw[if_neg (by decide),if_neg (by rw[hl];decide)]
 show ((List.replicate 13 (Str.ofString " " ++ b).cps).foldl (· ++ ·) #[]).toList=_
 rw[eG,cps_append,VL]
 simp
theorem Vw {a b:Str} (ha:qw a=true) (hb:qw b=true):we (Str.ofString "part " ++ a ++ Str.ofString " in" ++ Txt.mul (Str.ofString " " ++ b) 13):=by
 have e:Str.ofString "part " ++ a ++ Str.ofString " in" ++ Txt.mul (Str.ofString " " ++ b) 13=qQ ("part" :: a :: "in" :: List.replicate 13 b):=by
  refine qX ?_
  have h1:=aK b (.inr trivial) 13 "in"
  unfold qQ at h1 ⊢
  rw[join_eq] at h1 ⊢
  rw[qv,qv,h1,cps_append,cps_append,cps_append,Wh,VN,Yt,iw,VS]
  simp only[List.append_assoc,List.cons_append,List.nil_append]
 rw[e]
 have hw:∀n,Paired Wq (List.replicate n 0) (List.replicate n b):=fun n=>by
  induction n with
  | zero=>exact .nil
  | succ n ih=>rw[List.replicate_succ,List.replicate_succ];exact .cons (m7 hb) ih
 exact jq (ks:=12 :: 0 :: 13 :: List.replicate 13 0) (.cons (g9 (k:=9) rfl) (.cons (m7 ha) (.cons (g9 (k:=10) rfl) (hw 13)))) (by simp) (by simp) (by decide) (by simp) (.inl (show ¬("part" : Str) = "parties"∧¬("part" : Str) = "acts" by decide +kernel))
section
variable {P:Program} {w:World} {K:PySem.W.Frag} {mg:Str→Option Value} {base:Heap} {t:xj}
end
theorem Jo (x:Str):(Txt.slice x none (some 5)).cps.toList=x.cps.toList.take 5:=by
 have e:=beq_iff_eq.mp (PyProof.Rows.slice_to_min_closes (x:=x) (n:=5) (by decide) rfl)
 have hl:x.cps.toList.length=x.length:=by simp [Str.length]
 rw[e]
 by_cases h:(x.length:Int) < 5
 ·rw[if_pos h]
  show ((x.cps.toList.drop (0:Int).toNat).take ((x.length:Int) - 0).toNat).toArray.toList=_
  rw[Int.sub_zero,Int.toNat_natCast,Int.toNat_zero,List.drop_zero,←hl,List.take_length,List.take_of_length_le (by omega)]
 ·rw[if_neg h];rfl
theorem vW:("part " : Str).cps.toList=("part" : Str).cps.toList ++ [32]∧32∉("part" : Str).cps.toList∧("part" : Str).cps.toList.length=4∧32∉("done" : Str).cps.toList:=by decide +kernel
noncomputable def Xl (x:Str):Bool:=decide (x.cps.toList.take 5=("part " : Str).cps.toList)
theorem Xs (x:Str):decide (V.str (Txt.slice x none (some 5))=V.str (Str.ofString "part "))=Xl x:=by
 unfold Xl
 by_cases h:x.cps.toList.take 5=("part " : Str).cps.toList
 ·rw[decide_eq_true h]
  exact decide_eq_true (congrArg V.str (qX (by rw[Jo];exact h)))
 ·rw[decide_eq_false h]
  exact decide_eq_false fun z=>h (by rw[←Jo];exact congrArg (fun y:Str=>y.cps.toList) (V.str.inj z))
noncomputable def sW (d:Int) (x:Str):Int:=d + (if Xl x=true then 1 else 0) - (if x = "done" then 1 else 0)
theorem oK (x y:Str) (r:List Str):∃R,(qQ (x :: y :: r)).cps.toList=x.cps.toList ++ 32 :: R:=⟨_,by unfold qQ;rw[join_eq,qv]⟩
theorem Jd (x y:Str) (r:List Str):¬qQ (x :: y :: r) = "done":=fun z=>by
 obtain⟨R,e⟩:=oK x y r
 rw[z] at e
 exact vW.2.2.2 (by rw[e];simp)
theorem av {x:Str} (y:Str) (r:List Str) (hx:32∉x.cps.toList):Xl (qQ (x :: y :: r))=decide (x = "part"):=by
 obtain⟨R,e⟩:=oK x y r
 unfold Xl
 rw[e]
 by_cases q:x = "part"
 ·subst q
  rw[decide_eq_true rfl]
  refine decide_eq_true ?_
  rw[vW.1,List.take_append,List.take_of_length_le (by rw[vW.2.2.1];decide),vW.2.2.1]
  rfl
 ·rw[decide_eq_false q]
  refine decide_eq_false fun z=>q (qX ?_)
  have h1:=List.take_append_drop 5 (x.cps.toList ++ 32 :: R)
  rw[z,vW.1,List.append_assoc] at h1
  exact(cG vW.2.1 hx h1).1.symm
theorem bK {d:Int} {x:Str} (y:Str) (r:List Str) (hx:32∉x.cps.toList) (hp:¬x = "part"):sW d (qQ (x :: y :: r))=d:=by
 unfold sW
 rw[av y r hx,decide_eq_false hp,if_neg (Jd x y r)]
 simp
theorem oh {d:Int} (y:Str) (r:List Str):sW d (qQ ("part" :: y :: r))=d + 1:=by
 unfold sW
 rw[av y r vW.2.1,decide_eq_true rfl,if_neg (Jd _ y r)]
 simp
theorem Q4 {d:Int}:sW d "done" = d - 1:=by
 have h:Xl "done" = false:=by decide +kernel
 unfold sW
 rw[h,if_pos rfl]
 simp
theorem cJ {x:Str} (h:qw x=true):¬x = "part":=fun z=>by
 have:qw "part" = false:=by decide +kernel
 rw[z,this] at h
 cases h
theorem Wu {d d':Nat} {e:Ew} (h:e.ok) (hd:dp d e=some d'):sW (d:Int) e.row=(d':Nat):=by
 cases e with
 | pt n rs=>
  simp only[dp] at hd
  split at hd
  ·cases hd
   cases rs with
   | nil=>exact oh n []
   | cons y rs=>exact oh n _
  ·cases hd
 | dn=>
  simp only[dp] at hd
  split at hd
  ·cases hd
   rw[vS,Q4];omega
  ·cases hd
 | lt a b=>cases hd;exact bK (x:="let") _ _ (sy _ (by simp)).1 (by decide +kernel)
 | mu l w a n r=>cases hd;exact bK _ _ (yg h.1) (cJ h.1)
 | my l w a=>cases hd;exact bK _ _ (yg h.1) (cJ h.1)
 | bn l w a r=>cases hd;exact bK _ _ (yg h.1) (cJ h.1)
 | pw l w a r=>cases hd;exact bK _ _ (yg h.1) (cJ h.1)
theorem az:∀{evs:List Ew} {d d':Nat},(∀e∈evs,e.ok)→rG d evs=some d'→(evs.map Ew.row).foldl sW (d:Int)=(d':Nat)
 | [],d,d',_,h=>by cases h;rfl
 | e :: r,d,d',ho,h=>by
  rw[rG] at h
  cases hd:dp d e with
  | none=>rw[hd] at h;cases h
  | some d1=>
   rw[hd,Option.bind_some] at h
   rw[List.map_cons,List.foldl_cons,Wu (ho e List.mem_cons_self) hd]
   exact az (fun x hx=>ho x (List.mem_cons_of_mem _ hx)) h
theorem aq {d:Int}:∀{qK:List (Str × Str)},(∀mn∈qK,fV mn)→(qK.map wD).foldl sW d=d
 | [],_=>rfl
 | mn :: r,h=>by
  have hm:=h mn List.mem_cons_self
  have g:=mJ _ hm.1
  rw[List.map_cons,List.foldl_cons,show sW d (wD mn)=d from bK _ _ g.1 g.2.2.2.1]
  exact aq fun x hx=>h x (List.mem_cons_of_mem _ hx)
theorem og {d:Int} {x:Str} {ns:List Str} (hx:x∈(["parties","acts"]:List Str)) (hn:1≤ns.length):sW d (qQ (x :: ns))=d:=by
 have key:∀x∈(["parties","acts"]:List Str),32∉x.cps.toList∧¬x = "part":=by decide +kernel
 match ns,hn with
 | y :: r,_=>exact bK y r (key x hx).1 (key x hx).2
section
variable {P:Program} {w:World} {K:PySem.W.Frag} {mg:Str→Option Value} {base:Heap} {t:xj}
end
theorem Xb {e1 e2:List Ew} {d d':Nat} (h:rG d (e1 ++ e2)=some d'):∃d1,rG d e1=some d1:=by
 rw[cf] at h
 cases q:rG d e1 with
 | none=>rw[q] at h;cases h
 | some d1=>exact⟨d1,rfl⟩
theorem ZX (ps as:List Str) (qK:List (Str × Str)) (evs:List Ew):rowsOf ps as qK evs≠[]:=by unfold rowsOf;simp
theorem Pe {ps as:List Str} {qK:List (Str × Str)} {evs:List Ew} {d:Nat} (h:tM ps as qK) (he:∀e∈evs,e.ok) (hd:rG 0 evs=some d):(rowsOf ps as qK evs).foldl sW 0=(d:Int):=by
 unfold rowsOf
 rw[List.foldl_cons,og (by simp) h.p1,List.foldl_cons,og (by simp) h.a1,List.foldl_append,aq h.rn]
 exact az (d:=0) he hd
theorem lV {ps as:List Str} {qK:List (Str × Str)} {evs:List Ew} (hd:tM ps as qK) (he:u6 evs) {k:Nat} (hk:k≤(rowsOf ps as qK evs).length) {x:Str} {rest:List Str}
  (hp:k=0→jV (xJ x) "parties" 4=[]) (ha:k=1→jV (xJ x) "acts" 6=[]) (hr:2≤k→k≤2 + qK.length→vG (xJ x)=none)
  (ht:3≤k→∀(d:Nat),((rowsOf ps as qK evs).take k).foldl sW 0=(d:Int)→∀(fr:List Fr) (ls:List Str),fr.length=d + 1→vP fr ls x=none) :
  xp ((rowsOf ps as qK evs).take k ++ x :: rest)=.error k:=by
 have h1:=hd.p1;have h3:=hd.a1
 have nps:ps≠[]:=fun z=>by rw[z] at h1;simp at h1
 have nas:as≠[]:=fun z=>by rw[z] at h3;simp at h3
 have nd2:(ps ++ as).Nodup:=(List.nodup_append.mp hd.nd).1
 have nd1:ps.Nodup:=(List.nodup_append.mp nd2).1
 have n0:∀tl:List Str,j0 (qQ ("parties" :: ps) :: tl) 0 "parties" 4 []=some ps:=fun tl=>by
  have e0:xJ (wd (qQ ("parties" :: ps) :: tl) 0)=("parties" : Str) :: ps:=yF (by simp) hd.pn
  unfold j0
  rw[if_neg (by simp),e0]
  dsimp only
  rw[vx hd.p1 hd.pn (by have:=hd.p2;omega),if_neg (fun z=>z.elim nps (fun z=>z (by simpa using nd1)))]
 have n1:∀tl:List Str,j0 (qQ ("parties" :: ps) :: qQ ("acts" :: as) :: tl) 1 "acts" 6 ps=some as:=fun tl=>by
  have e1:xJ (wd (qQ ("parties" :: ps) :: qQ ("acts" :: as) :: tl) 1)=("acts" : Str) :: as:=yF (by simp) hd.an
  unfold j0
  rw[if_neg (by simp),e1]
  dsimp only
  rw[vx hd.a1 hd.an (by have:=hd.a2;omega),if_neg (fun z=>z.elim nas (fun z=>z nd2))]
 match k,hk,hp,ha,hr,ht with
 | 0,_,hp,_,_,_=>
  rw[List.take_zero,List.nil_append]
  have e:j0 (x :: rest) 0 "parties" 4 []=none:=by
   unfold j0
   rw[if_neg (by simp)]
   exact if_pos (.inl (hp rfl))
  unfold xp
  rw[e]
 | 1,_,_,ha,_,_=>
  show xp (qQ ("parties" :: ps) :: x :: rest)=_
  have e:j0 (qQ ("parties" :: ps) :: x :: rest) 1 "acts" 6 ps=none:=by
   unfold j0
   rw[if_neg (by simp)]
   exact if_pos (.inl (ha rfl))
  unfold xp
  rw[n0]
  dsimp only
  rw[e]
 | 2,_,_,_,hr,_=>
  show xp (qQ ("parties" :: ps) :: qQ ("acts" :: as) :: x :: rest)=_
  unfold xp
  rw[n0]
  dsimp only
  rw[n1]
  dsimp only
  show (match jG (ps ++ as) [] (x :: rest) with | .error n=>_ | .ok qK=>_)=_
  rw[jG,hr (by decide) (by omega)]
  rfl
 | j + 3,hk,_,_,hr,ht=>
  have hl:=@gI ps as qK evs
  have e:(rowsOf ps as qK evs).take (j + 3)=rowsOf ps as (qK.take (j + 1)) (evs.take (j + 1 - qK.length)):=by
   unfold rowsOf
   rw[List.take_succ_cons,List.take_succ_cons,List.take_append,List.length_map,List.map_take,List.map_take]
  have hev:=List.take_append_drop (j + 1 - qK.length) evs
  have hdp:=he.dp
  rw[←hev] at hdp
  obtain⟨d,ed⟩:=Xb hdp
  have hnd:=he.nd
  rw[←hev,dh] at hnd
  have hrm:=List.take_append_drop (j + 1) qK
  have hnd2:=hd.nd
  rw[←hrm,List.map_append,←List.append_assoc] at hnd2
  have r1:=hd.r1;have r2:=hd.r2;have len:=he.len
  have hd':tM ps as (qK.take (j + 1)):=⟨hd.p1,hd.p2,hd.a1,hd.a2,by rw[List.length_take];omega,by rw[List.length_take];omega,hd.pn,hd.an,fun mn hm=>hd.rn mn (List.mem_of_mem_take hm),(List.nodup_append.mp hnd2).1⟩
  have he':∀e∈evs.take (j + 1 - qK.length),e.ok:=fun x hx=>he.ok x (List.mem_of_mem_take hx)
  have hop:=Pe hd' he' ed
  rw[←e] at hop
  have:=Jy (x:=x) (rest:=rest) hd' he' ed (List.nodup_append.mp hnd).1 (by rw[List.length_take];omega) (fun q=>hr (by omega) ?_) (ht (by omega) d hop)
  ·rw[←e,List.length_take,Nat.min_eq_left hk] at this
   exact this
  ·have:=congrArg List.length q
   rw[List.length_take,List.length_nil] at this
   omega
theorem ZD {ps as:List Str} {qK:List (Str × Str)} {evs:List Ew} (hd:tM ps as qK) (he:u6 evs) {k:Nat} (hk:k≤(rowsOf ps as qK evs).length) {x:Str} {rest:List Str} (hx:Yb x):xp ((rowsOf ps as qK evs).take k ++ x :: rest)=.error k:=
 lV hd he hk (fun _=>hx.p) (fun _=>hx.a) (fun _ _=>hx.r) fun _ _ _ fr ls _=>hx.t fr ls
section
variable {P:Program} {w:World} {K:PySem.W.Frag} {mg:Str→Option Value} {base:Heap} {t:xj}
end
noncomputable def Y7 (a b x:Str):List Str:=[(Str.ofString ""),(Str.ofString "may"),a,(Str.ofString "calm"),(Str.ofString "calm ") ++ a ++ (Str.ofString " ") ++ b,(Str.ofString "Done"),(Str.ofString "done "),(Str.ofString " done")] ++ [(Str.ofString "let ") ++ a ++ (Str.ofString " be"),(Str.ofString "let ") ++ a ++ (Str.ofString " be Any"),(Str.ofString "part"),(Str.ofString "part whole"),(Str.ofString "part parties")] ++ [a ++ (Str.ofString " any must ") ++ b ++ (Str.ofString " by 3 else ") ++ a,(Str.ofString "let ") ++ a ++ (Str.ofString " be any"),a ++ (Str.ofString " any may any")] ++ [(Str.ofString "let any be ") ++ a,(Str.ofString "part any"),(Str.ofString "any ") ++ a ++ (Str.ofString " may ") ++ b,(Str.ofString "part ") ++ a ++ (Str.ofString " in any")] ++ [a ++ (Str.ofString " ") ++ b ++ (Str.ofString " must ") ++ b ++ (Str.ofString " by 0 else ") ++ a] ++ [a ++ (Str.ofString " ") ++ b ++ (Str.ofString " may"),a ++ (Str.ofString " all may ") ++ b ++ (Str.ofString " x"),(Str.ofString "part ") ++ a ++ (Str.ofString " in")] ++ [(Str.ofString "part ") ++ a ++ (Str.ofString " in") ++ Txt.mul ((Str.ofString " ") ++ b) 13,(Str.ofString "parties"),(Str.ofString "acts"),a ++ (Str.ofString "  any may ") ++ b] ++ [x ++ (Str.ofString " "),(Str.ofString " ") ++ x,x ++ (Str.ofString ";done")]
theorem GI {a b x:Str} (ha:qw a=true) (hb:qw b=true) (hx:Gd x):∀y∈Y7 a b x,we y:=by
 intro y hy
 unfold Y7 at hy
 simp only[List.mem_append,List.mem_cons,List.not_mem_nil,or_false] at hy
 rcases hy with (((((((rfl | rfl | rfl | rfl | rfl | rfl | rfl | rfl) | (rfl | rfl | rfl | rfl | rfl)) | (rfl | rfl | rfl)) | (rfl | rfl | rfl | rfl)) | rfl) | (rfl | rfl | rfl)) | (rfl | rfl | rfl | rfl)) | (rfl | rfl | rfl)
 ·exact YI ha hb
 ·exact YE ha hb
 ·exact YA ha hb
 ·exact Y0 ha hb
 ·exact Y1 ha hb
 ·exact Y2 ha hb
 ·exact Y3 ha hb
 ·exact Y4 ha hb
 ·exact Y5 ha hb
 ·exact Y6 ha hb
 ·exact K2 ha hb
 ·exact K3 ha hb
 ·exact K4 ha hb
 ·exact K5 ha hb
 ·exact K6 ha hb
 ·exact K7 ha hb
 ·exact K8 ha hb
 ·exact K9 ha hb
 ·exact Vz ha hb
 ·exact Vq ha hb
 ·exact Vj ha hb
 ·exact Vx ha hb
 ·exact Vk ha hb
 ·exact Vv ha hb
 ·exact Vw ha hb
 ·exact Vy ha hb
 ·exact Vg ha hb
 ·exact Vh ha hb
 ·exact Vb hx
 ·exact Vp hx
 ·exact Vf hx
noncomputable def Vn (K:PySem.W.Frag):Sp:=fun vs H Q _=>∃(d l:Addr) (c k cell:Int) (rows:List Str),vs=[.ref d,.ref l,.int k,.int cell]∧jx K H d ((NN c).map V.str)∧jx K H l (rows.map V.str)∧1≤rows.length∧rows.length≤150∧(∀x∈rows,Gd x)∧0≤k∧0≤cell∧∀y H',we y→qf H H'→Q (.str y) H'
section
variable {P:Program} {w:World} {K:PySem.W.Frag} {mg:Str→Option Value} {base:Heap} {t:xj}
local macro_rules | `(tactic| walk_at "own")=>`(tactic| (refine⟨_,_,rfl,rfl,?_,?_⟩;(focus walk_at "lsz")))
theorem ju:qV ["_law_names","_law_rows_here","_law_at","_law_cell","_law_one","_law_two","_law_here","_law_some"] ["_law_names","_law_rows_here","_law_at","_law_cell"] (z7 xa):=⟨rfl,rfl,rfl,by decide +kernel,rfl,by decide +kernel,by decide +kernel⟩
set_option maxHeartbeats 2000000 in
theorem sX (T:Txt K mg t):qW P w K mg base jW 1 t.gk t.y8 ["_law_names","_law_rows_here","_law_at","_law_cell"] (Vn K):=by
 refine T.g7.fn.ok ju (fun vs H Q E h=>(by obtain⟨_,_,_,_,_,_,rfl,_⟩:=h;rfl)) (fun cdv A outer s H vs Q E hr h=>?_)
 obtain⟨d,l,c,k,cell,rows,rfl,hD,hL,h1,hl,hG,k0,c0,kk⟩:=h
 refine⟨_,(z8 (qi (i:=4) ju.nd rfl (Or.inl rfl) (qJ (qu (K:=K) rfl) (pv 0) z9 (fun _ _=>rfl)))
   (z8 (qi (i:=5) ju.nd rfl (Or.inl rfl) (qJ (qu (K:=K) rfl) (pv 0) z9 (fun _ _=>rfl)))
   (z8 (qi (i:=6) ju.nd rfl (Or.inl rfl) (qJ (qu (K:=K) rfl) (pv 1) (qk qC (pv 2) (qG (jv (K:=K) rfl) rfl T.kf PySem.boot_len (z6 (pv 1) qz))) (fun _ _=>rfl)))
   (z8 (qi (i:=7) ju.nd rfl (Or.inl rfl) (qO (z6 qq (z6 qq (z6 (pv 4) (z6 qq (z6 (qk qj (qk qj (qk qj qq (pv 4)) qq) (pv 5)) (z6 qq (z6 qq (z6 qq qz))))))))) p8)
   (z8 (qi (i:=7) ju.nd rfl (Or.inl rfl) (qk xU (pv 7) (qO (z6 (qk qj (qk qj qq (pv 4)) qq) (z6 (qk qj (qk qj qq (pv 4)) qq) (z6 qq (z6 qq (z6 qq qz))))))))
   (z8 (qi (i:=7) ju.nd rfl (Or.inl rfl) (qk xU (pv 7) (qO (z6 (qk qj (qk qj (qk qj (qk qj (pv 4) qq) (pv 5)) qq) (pv 4)) (z6 (qk qj (qk qj qq (pv 4)) qq) (z6 (qk qj (pv 4) qq) qz))))))
   (z8 (qi (i:=7) ju.nd rfl (Or.inl rfl) (qk xU (pv 7) (qO (z6 (qk qj qq (pv 4)) (z6 qq (z6 (qk qj (qk qj (qk qj qq (pv 4)) qq) (pv 5)) (z6 (qk qj (qk qj qq (pv 4)) qq) qz)))))))
   (z8 (qi (i:=7) ju.nd rfl (Or.inl rfl) (qk xU (pv 7) (qO (z6 (qk qj (qk qj (qk qj (qk qj (qk qj (qk qj (pv 4) qq) (pv 5)) qq) (pv 5)) qq) (pv 4)) qz))))
   (z8 (qi (i:=7) ju.nd rfl (Or.inl rfl) (qk xU (pv 7) (qO (z6 (qk qj (qk qj (qk qj (pv 4) qq) (pv 5)) qq) (z6 (qk qj (qk qj (qk qj (pv 4) qq) (pv 5)) qq) (z6 (qk qj (qk qj qq (pv 4)) qq) qz))))))
   (z8 (qi (i:=7) ju.nd rfl (Or.inl rfl) (qk xU (pv 7) (qO (z6 (qk qj (qk qj (qk qj qq (pv 4)) qq) (qk iF (qk qj qq (pv 5)) z9)) (z6 qq (z6 qq (z6 (qk qj (qk qj (pv 4) qq) (pv 5)) qz)))))))
   (z8 (qi (i:=7) ju.nd rfl (Or.inl rfl) (qk xU (pv 7) (qO (z6 (qk qj (pv 6) qq) (z6 (qk qj qq (pv 6)) (z6 (qk qj (pv 6) qq) qz))))))
   (qx (qt (qJ (qu (K:=K) rfl) (pv 7) (qk qC (pv 3) (qG (jv (K:=K) rfl) rfl T.kf PySem.boot_len (z6 (pv 7) qz))) (fun _ _=>rfl))))))))))))))),?_⟩
 have hN:=dq c
 have g0:(NN c).getD (0:Int).toNat (Str.ofString "")=yU c 0:=gr c (i:=0) (by decide)
 have g1:(NN c).getD (1:Int).toNat (Str.ofString "")=yU c 1:=gr c (i:=1) (by decide)
 walk_at "rd"
 rw[g0,g1]
 have ha:qw (yU c 0)=true:=gf c
 have hb:qw (yU c 1)=true:=gf c
 have la:=dt c 0
 have lb:=dt c 1
 generalize yU c 0=a at *
 generalize yU c 1=b at *
 clear g0 g1
 refine⟨l,_,rfl,.inl hL,?_⟩
 rw[List.length_map]
 have m0:0≤k % (rows.length:Int):=Int.emod_nonneg _ (by omega)
 have m1:k % (rows.length:Int) < rows.length:=Int.emod_lt_of_pos _ (by omega)
 refine⟨_,_,rfl,rfl,(show (0:Int) < (rows.length:Int) by omega),?_⟩
 refine⟨_,_,_,_,rfl,rfl,hL,yl (by omega) (by omega),?_⟩
 have hx:Gd (rows.getD (k % (rows.length:Int)).toNat (Str.ofString "")):=hG _ (pU (ws:=rows) (by omega))
 generalize rows.getD (k % (rows.length:Int)).toNat (Str.ofString "")=x at *
 have lx:=hx.sh
 walk_at "rd"
 intro l1 H1 s1 hl1 e1
 obtain⟨X1,f1,o1,n1⟩:∃X:List Str,H1 l1=some (.lst (X.map V.str))∧(∀y∈X,we y)∧X.length=8:=⟨[(Str.ofString ""),(Str.ofString "may"),a,(Str.ofString "calm"),(Str.ofString "calm ") ++ a ++ (Str.ofString " ") ++ b,(Str.ofString "Done"),(Str.ofString "done "),(Str.ofString " done")],e1,(fun y hy=>by
  simp only[List.mem_cons,List.not_mem_nil,or_false] at hy
  (rcases hy with rfl | rfl | rfl | rfl | rfl | rfl | rfl | rfl)
  ·exact YI ha hb
  ·exact YE ha hb
  ·exact YA ha hb
  ·exact Y0 ha hb
  ·exact Y1 ha hb
  ·exact Y2 ha hb
  ·exact Y3 ha hb
  ·exact Y4 ha hb),rfl⟩
 clear e1
 walk_at "rd"
 intro l2 H2 s2 hl2 e2
 obtain⟨X2,f2,o2,n2⟩:∃X:List Str,H2 l2=some (.lst (X.map V.str))∧(∀y∈X,we y)∧X.length=5:=⟨[(Str.ofString "let ") ++ a ++ (Str.ofString " be"),(Str.ofString "let ") ++ a ++ (Str.ofString " be Any"),(Str.ofString "part"),(Str.ofString "part whole"),(Str.ofString "part parties")],e2,(fun y hy=>by
  simp only[List.mem_cons,List.not_mem_nil,or_false] at hy
  (rcases hy with rfl | rfl | rfl | rfl | rfl)
  ·exact Y5 ha hb
  ·exact Y6 ha hb
  ·exact K2 ha hb
  ·exact K3 ha hb
  ·exact K4 ha hb),rfl⟩
 clear e2
 refine⟨l1,l2,_,_,rfl,rfl,s2 _ _ f1,f2,qp (by rw[List.length_map,List.length_map];omega),?_⟩
 intro l3 H3 s3 hl3 e3
 obtain⟨X3,f3,o3,n3⟩:∃X:List Str,H3 l3=some (.lst (X.map V.str))∧(∀y∈X,we y)∧X.length=13:=⟨X1 ++ X2,by rw[e3,List.map_append],fun y hy=>(List.mem_append.mp hy).elim (o1 y) (o2 y),by rw[List.length_append];omega⟩
 clear e3
 have s33:qf H H3:=(s1.trans s2).trans s3
 clear s2 s3 f1 f2 o1 o2 n1 n2 s1
 walk_at "rd"
 intro l4 H4 s4 hl4 e4
 obtain⟨X4,f4,o4,n4⟩:∃X:List Str,H4 l4=some (.lst (X.map V.str))∧(∀y∈X,we y)∧X.length=3:=⟨[a ++ (Str.ofString " any must ") ++ b ++ (Str.ofString " by 3 else ") ++ a,(Str.ofString "let ") ++ a ++ (Str.ofString " be any"),a ++ (Str.ofString " any may any")],e4,(fun y hy=>by
  simp only[List.mem_cons,List.not_mem_nil,or_false] at hy
  (rcases hy with rfl | rfl | rfl)
  ·exact K5 ha hb
  ·exact K6 ha hb
  ·exact K7 ha hb),rfl⟩
 clear e4
 refine⟨l3,l4,_,_,rfl,rfl,s4 _ _ f3,f4,qp (by rw[List.length_map,List.length_map];omega),?_⟩
 intro l5 H5 s5 hl5 e5
 obtain⟨X5,f5,o5,n5⟩:∃X:List Str,H5 l5=some (.lst (X.map V.str))∧(∀y∈X,we y)∧X.length=16:=⟨X3 ++ X4,by rw[e5,List.map_append],fun y hy=>(List.mem_append.mp hy).elim (o3 y) (o4 y),by rw[List.length_append];omega⟩
 clear e5
 have s55:qf H H5:=(s33.trans s4).trans s5
 clear s4 s5 f3 f4 o3 o4 n3 n4 s33
 walk_at "rd"
 intro l6 H6 s6 hl6 e6
 obtain⟨X6,f6,o6,n6⟩:∃X:List Str,H6 l6=some (.lst (X.map V.str))∧(∀y∈X,we y)∧X.length=4:=⟨[(Str.ofString "let any be ") ++ a,(Str.ofString "part any"),(Str.ofString "any ") ++ a ++ (Str.ofString " may ") ++ b,(Str.ofString "part ") ++ a ++ (Str.ofString " in any")],e6,(fun y hy=>by
  simp only[List.mem_cons,List.not_mem_nil,or_false] at hy
  (rcases hy with rfl | rfl | rfl | rfl)
  ·exact K8 ha hb
  ·exact K9 ha hb
  ·exact Vz ha hb
  ·exact Vq ha hb),rfl⟩
 clear e6
 refine⟨l5,l6,_,_,rfl,rfl,s6 _ _ f5,f6,qp (by rw[List.length_map,List.length_map];omega),?_⟩
 intro l7 H7 s7 hl7 e7
 obtain⟨X7,f7,o7,n7⟩:∃X:List Str,H7 l7=some (.lst (X.map V.str))∧(∀y∈X,we y)∧X.length=20:=⟨X5 ++ X6,by rw[e7,List.map_append],fun y hy=>(List.mem_append.mp hy).elim (o5 y) (o6 y),by rw[List.length_append];omega⟩
 clear e7
 have s77:qf H H7:=(s55.trans s6).trans s7
 clear s6 s7 f5 f6 o5 o6 n5 n6 s55
 walk_at "rd"
 intro l8 H8 s8 hl8 e8
 obtain⟨X8,f8,o8,n8⟩:∃X:List Str,H8 l8=some (.lst (X.map V.str))∧(∀y∈X,we y)∧X.length=1:=⟨[a ++ (Str.ofString " ") ++ b ++ (Str.ofString " must ") ++ b ++ (Str.ofString " by 0 else ") ++ a],e8,(fun y hy=>by rw[List.mem_singleton.mp hy];exact Vj ha hb),rfl⟩
 clear e8
 refine⟨l7,l8,_,_,rfl,rfl,s8 _ _ f7,f8,qp (by rw[List.length_map,List.length_map];omega),?_⟩
 intro l9 H9 s9 hl9 e9
 obtain⟨X9,f9,o9,n9⟩:∃X:List Str,H9 l9=some (.lst (X.map V.str))∧(∀y∈X,we y)∧X.length=21:=⟨X7 ++ X8,by rw[e9,List.map_append],fun y hy=>(List.mem_append.mp hy).elim (o7 y) (o8 y),by rw[List.length_append];omega⟩
 clear e9
 have s99:qf H H9:=(s77.trans s8).trans s9
 clear s8 s9 f7 f8 o7 o8 n7 n8 s77
 walk_at "rd"
 intro l10 H10 s10 hl10 e10
 obtain⟨X10,f10,o10,HL⟩:∃X:List Str,H10 l10=some (.lst (X.map V.str))∧(∀y∈X,we y)∧X.length=3:=⟨[a ++ (Str.ofString " ") ++ b ++ (Str.ofString " may"),a ++ (Str.ofString " all may ") ++ b ++ (Str.ofString " x"),(Str.ofString "part ") ++ a ++ (Str.ofString " in")],e10,(fun y hy=>by
  simp only[List.mem_cons,List.not_mem_nil,or_false] at hy
  (rcases hy with rfl | rfl | rfl)
  ·exact Vx ha hb
  ·exact Vk ha hb
  ·exact Vv ha hb),rfl⟩
 clear e10
 refine⟨l9,l10,_,_,rfl,rfl,s10 _ _ f9,f10,qp (by rw[List.length_map,List.length_map];omega),?_⟩
 intro l11 H11 s11 hl11 e11
 obtain⟨X11,f11,o11,n11⟩:∃X:List Str,H11 l11=some (.lst (X.map V.str))∧(∀y∈X,we y)∧X.length=24:=⟨X9 ++ X10,by rw[e11,List.map_append],fun y hy=>(List.mem_append.mp hy).elim (o9 y) (o10 y),by rw[List.length_append];omega⟩
 clear e11
 have s1111:qf H H11:=(s99.trans s10).trans s11
 clear s10 s11 f9 f10 o9 o10 n9 HL s99
 walk_at "rd"
 have wb:(Str.ofString " ").length=1:=by decide +kernel
 have lm:(Str.ofString " " ++ b).length≤9:=by rw[len_app,wb];omega
 refine⟨mulOk_of 9 13 lm (by decide) (by decide) (by decide) (by decide),?_⟩
 have l13:(Txt.mul (Str.ofString " " ++ b) 13).length≤117:=PyProof.Rows.len_mul_leN (L:=9) (N:=13) lm (by decide)
 walk_at "rd"
 intro l12 H12 s12 hl12 e12
 obtain⟨X12,f12,o12,n12⟩:∃X:List Str,H12 l12=some (.lst (X.map V.str))∧(∀y∈X,we y)∧X.length=4:=⟨[(Str.ofString "part ") ++ a ++ (Str.ofString " in") ++ Txt.mul ((Str.ofString " ") ++ b) 13,(Str.ofString "parties"),(Str.ofString "acts"),a ++ (Str.ofString "  any may ") ++ b],e12,(fun y hy=>by
  simp only[List.mem_cons,List.not_mem_nil,or_false] at hy
  (rcases hy with rfl | rfl | rfl | rfl)
  ·exact Vw ha hb
  ·exact Vy ha hb
  ·exact Vg ha hb
  ·exact Vh ha hb),rfl⟩
 clear e12
 refine⟨l11,l12,_,_,rfl,rfl,s12 _ _ f11,f12,qp (by rw[List.length_map,List.length_map];omega),?_⟩
 intro l13 H13 s13 hl13 e13
 obtain⟨X13,f13,o13,n13⟩:∃X:List Str,H13 l13=some (.lst (X.map V.str))∧(∀y∈X,we y)∧X.length=28:=⟨X11 ++ X12,by rw[e13,List.map_append],fun y hy=>(List.mem_append.mp hy).elim (o11 y) (o12 y),by rw[List.length_append];omega⟩
 clear e13
 have s1313:qf H H13:=(s1111.trans s12).trans s13
 clear s12 s13 f11 f12 o11 o12 n11 n12 s1111
 walk_at "rd"
 intro l14 H14 s14 hl14 e14
 obtain⟨X14,f14,o14,n14⟩:∃X:List Str,H14 l14=some (.lst (X.map V.str))∧(∀y∈X,we y)∧X.length=3:=⟨[x ++ (Str.ofString " "),(Str.ofString " ") ++ x,x ++ (Str.ofString ";done")],e14,(fun y hy=>by
  simp only[List.mem_cons,List.not_mem_nil,or_false] at hy
  (rcases hy with rfl | rfl | rfl)
  ·exact Vb hx
  ·exact Vp hx
  ·exact Vf hx),rfl⟩
 clear e14
 refine⟨l13,l14,_,_,rfl,rfl,s14 _ _ f13,f14,qp (by rw[List.length_map,List.length_map];omega),?_⟩
 intro l15 H15 s15 hl15 e15
 obtain⟨X15,f15,o15,n15⟩:∃X:List Str,H15 l15=some (.lst (X.map V.str))∧(∀y∈X,we y)∧X.length=31:=⟨X13 ++ X14,by rw[e15,List.map_append],fun y hy=>(List.mem_append.mp hy).elim (o13 y) (o14 y),by rw[List.length_append];omega⟩
 clear e15
 have s1515:qf H H15:=(s1313.trans s14).trans s15
 clear s14 s15 f13 f14 o13 o14 n13 n14 s1313
 walk_at "rd"
 refine⟨l15,_,rfl,.inl (jx.of f15),?_⟩
 rw[List.length_map,n15]
 have z0:0≤cell % ((31:Nat):Int):=Int.emod_nonneg _ (by decide)
 have z1:cell % ((31:Nat):Int) < ((31:Nat):Int):=Int.emod_lt_of_pos _ (by decide)
 refine⟨_,_,rfl,rfl,(show (0:Int) < ((31:Nat):Int) by decide),?_⟩
 refine⟨_,_,_,_,rfl,rfl,jx.of f15,yl (by omega) (by omega),?_⟩
 exact kk _ _ (o15 _ (pU (ws:=X15) (by omega))) s1515
end
structure u9 (rows:List Str) (k:Nat) (x:Str):Prop where
 HE:d6 x.cps.toList
 sh:x.length≤380
 bad:∀rest:List Str,xp (rows.take k ++ x :: rest)=.error k
theorem u7.Gr {x:Str} {rows:List Str} {k:Nat} (h:u7 x) (hb:∀rest:List Str,xp (rows.take k ++ x :: rest)=.error k):u9 rows k x:=⟨d6.free h.fr,Nat.le_trans h.sh (by decide),hb⟩
theorem i5 {x:Str} {ks:List Nat} {ws:List Str} (hs:xJ x=ws) (r:yC ks ws) (hd:¬x = "done") (h1:jr ks fZ=false) (h2:jr ks gJ=false) (h3:jr ks sP=false) (h4:jr ks pW=false) (h5:jr ks Zi=false) (h6:fQ ks=false) (fr:List Fr) (ls:List Str):vP fr ls x=none:=by
 have e1:ji (xJ x)=none:=by rw[hs];exact eF r h1 h2 h3 h4
 have e2:vk (xJ x)=none:=by rw[hs];exact r.part h6
 have e3:sf (xJ x)=none:=by
  rw[hs]
  unfold sf
  rw[if_neg (kr r oo.2.2.2.2.1 jS.2.2.2.2.1 h5)]
 unfold vP
 rw[if_neg hd]
 simp only[e1,e2,e3]
theorem Km:("sore" : Str)∈jT:=by decide +kernel
section
variable {ps as:List Str} {qK:List (Str × Str)} {evs:List Ew} {k:Nat}
theorem Kl (hd:tM ps as qK) (he:u6 evs) (hk:k≤(rowsOf ps as qK evs).length) {x:Str} (hx:we x):u9 (rowsOf ps as qK evs) k x:=
 ⟨hx.HE,hx.sh,fun rest=>ZD hd he hk hx.bad⟩
theorem JM (hd:tM ps as qK) (he:u6 evs) (hk:k≤(rowsOf ps as qK evs).length) {n:Str} (hn:qw n=true) (h2:2 + qK.length < k):u9 (rowsOf ps as qK evs) k (wD ("sore",n)):=by
 have ho:fV ("sore",n):=⟨Km,hn⟩
 have r1:=hd.r1
 refine(Jb ho).Gr fun rest=>lV hd he hk (fun z=>by omega) (fun z=>by omega) (fun _ z=>by omega) fun _ _ _ fr ls _=>?_
 refine i5 (ks:=[15,0]) (JB ho) (.cons (rl (k:=12) rfl) (.cons (rn hn) .nil)) (fun z=>?_) (by decide) (by decide) (by decide) (by decide) (by decide) (by decide) fr ls
 obtain⟨R,e⟩:=di "sore" n []
 have e':(wD ("sore",n)).cps.toList=_:=e
 rw[z] at e'
 exact vW.2.2.2 (by rw[e'];simp)
theorem JP (hd:tM ps as qK) (he:u6 evs) (hk:k≤(rowsOf ps as qK evs).length) (h2:2≤k) (ho:((rowsOf ps as qK evs).take k).foldl sW 0=0):u9 (rowsOf ps as qK evs) k "done":=by
 have hf:u7 ("done" : Str):=by
  have:=Ew.Kv (e:=.dn) True.intro
  rw[vS] at this
  exact this
 refine hf.Gr fun rest=>lV hd he hk (fun z=>by omega) (fun z=>by omega) (fun _ _=>?_) fun _ d hd0 fr ls hfr=>?_
 ·have:=mS (e:=.dn) True.intro
  rw[vS] at this
  exact this
 ·rw[ho] at hd0
  have:=Ew.takes (e:=.dn) True.intro fr ls
  rw[vS] at this
  rw[this]
  match fr,hfr with
  | [f],_=>rfl
  | f :: g :: r,hfr=>simp only[List.length_cons] at hfr;omega
theorem oO {x n:Str} (hx:x∈(["parties","acts"]:List Str)) (hn:qw n=true):iy (xJ (qQ [x,n]))∧xJ (qQ [x,n])=[x,n]∧¬qQ [x,n] = "done"∧u7 (qQ [x,n]):=by
 have hk:∀x∈(["parties","acts"]:List Str),qw x=false∧vC x=0∧x∉lits:=by decide +kernel
 have hs:xJ (qQ [x,n])=[x,n]:=yF hx (fun y hy=>by rw[List.mem_singleton.mp hy];exact hn)
 refine⟨?_,hs,fun z=>?_,cc (by simp only[List.mem_cons,List.not_mem_nil,or_false] at hx ⊢;exact .inr hx) (fun y hy=>by rw[List.mem_singleton.mp hy];exact hn) (by simp)⟩
 ·rw[hs]
  exact yC.empty (ks:=[2,0]) (.cons (ro (hk x hx)) (.cons (rn hn) .nil)) (by decide)
 ·obtain⟨R,e⟩:=di x n []
  rw[z] at e
  exact vW.2.2.2 (by rw[e];simp)
theorem Ks (hd:tM ps as qK) (he:u6 evs) (hk:k≤(rowsOf ps as qK evs).length) {n:Str} (hn:qw n=true) (h0:k≠0):u9 (rowsOf ps as qK evs) k (qQ ["parties",n]):=by
 obtain⟨h1,h2,h3,h4⟩:=oO (x:="parties") (by simp) hn
 exact h4.Gr fun rest=>lV hd he hk (fun z=>absurd z h0) (fun _=>kI h2 (show ¬("parties" : Str) = "acts" by decide +kernel)) (fun _ _=>h1.2.2.2) fun _ _ _ fr ls _=>dZ h3 h1 fr ls
theorem Ku (hd:tM ps as qK) (he:u6 evs) (hk:k≤(rowsOf ps as qK evs).length) {n:Str} (hn:qw n=true) (h0:k≠1):u9 (rowsOf ps as qK evs) k (qQ ["acts",n]):=by
 obtain⟨h1,h2,h3,h4⟩:=oO (x:="acts") (by simp) hn
 exact h4.Gr fun rest=>lV hd he hk (fun _=>kI h2 (show ¬("acts" : Str) = "parties" by decide +kernel)) (fun z=>absurd z h0) (fun _ _=>h1.2.2.2) fun _ _ _ fr ls _=>dZ h3 h1 fr ls
theorem Kr (hd:tM ps as qK) (he:u6 evs) (hk:k≤(rowsOf ps as qK evs).length) {a b:Str} (ha:qw a=true) (hb:qw b=true) (h3:k < 3):u9 (rowsOf ps as qK evs) k (Ew.row (.lt a b)):=by
 have ho:(Ew.lt a b).ok:=⟨ha,hb⟩
 have hs:=Ew.xJ ho
 exact(Ew.Kv ho).Gr fun rest=>lV hd he hk (fun _=>kI hs (show ¬("let" : Str) = "parties" by decide +kernel)) (fun _=>kI hs (show ¬("let" : Str) = "acts" by decide +kernel)) (fun _ _=>mS ho) fun z=>by omega
end
theorem JF {rows:List Str} {k:Nat} {x:Str} {rest:List Str} (hs:u9 rows k x) (hr:∀y∈rows,u7 y) (hy:∀y∈rest,y∈rows) (hl:rows.length≤100) (hrl:rest.length≤100):Txt.split (Txt.join "; " (rows.take k ++ x :: rest)) "; " = rows.take k ++ x :: rest∧bT (rows.take k ++ x :: rest)∧((rows.take k ++ x :: rest).map (·.length)).sum + (rows.take k ++ x :: rest).length * (Str.ofString "; ").length≤59000:=by
 have hm:∀y∈rows.take k ++ x :: rest,d6 y.cps.toList∧y.length≤380:=fun y hyy=>by
  (rcases List.mem_append.mp hyy with h | h)
  ·have:=hr y (List.mem_of_mem_take h)
   exact⟨d6.free this.fr,Nat.le_trans this.sh (by decide)⟩
  ·(rcases List.mem_cons.mp h with rfl | h)
   ·exact⟨hs.HE,hs.sh⟩
   ·have:=hr y (hy y h)
    exact⟨d6.free this.fr,Nat.le_trans this.sh (by decide)⟩
 have hlen:(rows.take k ++ x :: rest).length≤201:=by rw[List.length_append,List.length_take,List.length_cons];omega
 refine⟨iC (by simp) fun y h=>(hm y h).1,⟨by omega,fun y h=>Nat.le_trans (hm y h).2 (by decide)⟩,?_⟩
 have e1:((rows.take k ++ x :: rest).map (·.length)).sum≤180 * 200 + 380:=by
  have s1:=uS (n:=180) (xs:=rows.take k) fun y h=>(hr y (List.mem_of_mem_take h)).sh
  have s2:=uS (n:=180) (xs:=rest) fun y h=>(hr y (hy y h)).sh
  have s3:=hs.sh
  rw[List.length_take] at s1
  rw[List.map_append,List.sum_append,List.map_cons,List.sum_cons]
  omega
 have e2:(Str.ofString "; ").length=2:=by decide +kernel
 rw[e2]
 omega
section
variable {P:Program} {w:World} {K:PySem.W.Frag} {mg:Str→Option Value} {base:Heap} {t:xj}
end
theorem QX {x y:Str} (e:y.cps.toList=x.cps.toList ++ [32]) (n:Str):y ++ n=qQ [x,n]:=by
 refine qX ?_
 unfold qQ
 rw[cps_append,join_eq,qv,L2.join_one,e]
 simp
theorem W8 {xs:List Str} {n:Nat} (h:n + 2≤xs.length):∃u v,(xs.drop n).take 2=[u,v]∧u∈xs∧v∈xs:=by
 have h1:n < xs.length:=by omega
 have h2:n + 1 < xs.length:=by omega
 exact⟨xs[n],xs[n + 1],by rw[List.drop_eq_getElem_cons h1,List.drop_eq_getElem_cons h2];rfl,List.getElem_mem _,List.getElem_mem _⟩
noncomputable def oU (K:PySem.W.Frag):Sp:=fun vs H Q _=>∃(l:Addr) (k:Int) (rows:List Str),vs=[.ref l,.int k]∧jx K H l (rows.map V.str)∧rows.length≤150∧0≤k∧k≤rows.length∧(∀x∈rows,x.length≤180)∧∀H',qf H H'→Q (.int ((rows.take k.toNat).foldl sW 0)) H'
noncomputable def aP (K:PySem.W.Frag):Sp:=fun vs H Q _=>∃(d l:Addr) (c cell:Int) (ps as:List Str) (qK:List (Str × Str)) (evs:List Ew),vs=[.ref d,.ref l,.int (qK.length:Nat),.int cell]∧jx K H d ((NN c).map V.str)∧H l=some (.lst ((rowsOf ps as qK evs).map V.str))∧tM ps as qK∧u6 evs∧0≤cell∧cell < 2147483647∧
 ∀(k:Nat) (x:Str) (rest:List Str) (p q:Addr) H',u9 (rowsOf ps as qK evs) k x→k≤(rowsOf ps as qK evs).length→(∀y∈rest,y∈rowsOf ps as qK evs)→rest.length≤(rowsOf ps as qK evs).length→qf H H'→H' p=some (.tup [.int (k:Nat),.ref q])→H' q=some (.lst (((rowsOf ps as qK evs).take k ++ x :: rest).map V.str))→Q (.ref p) H'
section
variable {P:Program} {w:World} {K:PySem.W.Frag} {mg:Str→Option Value} {base:Heap} {t:xj}
theorem yf:qV ["_law_rows_here","_law_at","_law_depth","_law_row_here"] ["_law_rows_here","_law_at"] (z7 xZ):=⟨rfl,rfl,rfl,by decide +kernel,rfl,by decide +kernel,by decide +kernel⟩
set_option maxHeartbeats 400000 in
theorem sV (T:Txt K mg t):qW P w K mg base jW 1 t.gw t.y9 ["_law_rows_here","_law_at"] (oU K):=by
 refine T.g8.fn.ok yf (fun vs H Q E h=>(by obtain⟨_,_,_,rfl,_⟩:=h;rfl)) (fun cdv A outer s H vs Q E hr h=>?_)
 obtain⟨l,k,rows,rfl,hL,hl,k0,k1,hF,kk⟩:=h
 refine⟨_,(z8 (qi (i:=2) yf.nd rfl (Or.inl rfl) z9)
   (z8 (fM PassesOwn.never rfl (gN (K:=K) rfl (jN (j4 (K:=K) rfl) (pv 0) kg (jE (pv 1)))) (xR (i:=3) yf.nd rfl (Or.inl rfl))
    (qx (qi (i:=2) yf.nd rfl (Or.inl rfl) (qk fF (qk xk (pv 2) (jI yd rfl T.fO PyProof.Rows.boot_int (z6 (kX jk (jN WN (pv 3) kg (jE z9)) qq (qe _)) qz))) (jI yd rfl T.fO PyProof.Rows.boot_int (z6 (kX jk (pv 3) qq (qe _)) qz))))))
   (qx (qt (pv 2))))),?_⟩
 obtain⟨n,rfl⟩:=Int.eq_ofNat_of_zero_le k0
 walk_at "rd"
 intro l1 H1 s1 hl1 e1
 have e1':H1 l1=some (.lst ((rows.take n).map V.str)):=by rw[←gG V.str rows n];exact e1
 clear e1
 rw[Int.toNat_natCast] at kk
 have hF':∀x∈rows.take n,x.length≤180:=fun x hx=>hF x (List.mem_of_mem_take hx)
 have hl':(rows.take n).length≤150:=by rw[List.length_take];omega
 generalize rows.take n=rw1 at *
 walk_at "rd"
 refine cU (K:=K) (a:=l1) (xs:=rw1.map V.str) (fun i σ H'=>∃(D:Int) (v2:Option V),σ=[some (.ref l),some (.int n),some (.int D),v2]∧qf H1 H'∧D=(rw1.take i).foldl sW 0∧-(i:Int)≤D∧D≤i)
  ⟨0,none,rfl,qf.refl _,rfl,by omega,by omega⟩ (fun i σ H' _ ⟨_,_,_,q,_⟩=>q.seq (jx.of e1')) ?_ ?_
 ·rintro i y σ H2 hi ⟨D,v2,rfl,s2,eD,d1,d2⟩
  rw[List.getElem?_map] at hi
  obtain⟨x,hx,rfl⟩:=Option.map_eq_some_iff.mp hi
  have hxl:=hF' x (List.mem_of_getElem? hx)
  have hil:=(List.getElem?_eq_some_iff.mp hx).1
  walk_at "rd"
  refine .inr ⟨_,rfl,?_⟩
  walk_at "rd"
  refine .inr ⟨_,rfl,?_⟩
  walk_at "rd"
  rw[Xs]
  have x3:(if decide (V.str x=V.str (Str.ofString "done"))=true then (1:Int) else 0)=if x = "done" then 1 else 0:=by rw[p7];by_cases q:x = "done"<;>simp [q]
  rw[x3]
  have eo:sW D x=D + (if Xl x=true then 1 else 0) - (if x = "done" then 1 else 0):=rfl
  have y1:0≤(if Xl x=true then (1:Int) else 0)∧(if Xl x=true then (1:Int) else 0)≤1:=by split<;>decide
  have y2:0≤(if x = "done" then (1:Int) else 0)∧(if x = "done" then (1:Int) else 0)≤1:=by split<;>decide
  refine⟨?_,?_,?_⟩
  ·rw[take_snoc hx,List.foldl_append,←eD];rfl
  ·omega
  ·omega
 ·rintro σ H2 ⟨D,v2,rfl,s2,eD,d1,d2⟩
  rw[List.length_map,List.take_length] at eD
  walk_at "rd"
  rw[eD]
  exact kk H2 (s1.trans s2)
theorem jj:qV ["_law_names","_law_rows_here","_law_many","_law_cell","_law_at","_law_row_here","_law_behind"] ["_law_names","_law_rows_here","_law_many","_law_cell"] (z7 jR):=⟨rfl,rfl,rfl,by decide +kernel,rfl,by decide +kernel,by decide +kernel⟩
set_option maxHeartbeats 2000000 in
theorem uu (T:Txt K mg t):qW P w K mg base jW 2 t.wx t.v8 ["_law_names","_law_rows_here","_law_many","_law_cell"] (aP K):=by
 have G_w_mix:qW P w K mg base jW 1 t.gj t.yA ["_law_cell","_law_k"] lX:=(pV T).mono (by decide)
 have G_w_odd_row:qW P w K mg base jW 1 t.gk t.y8 ["_law_names","_law_rows_here","_law_at","_law_cell"] (Vn K):=(sX T).mono (by decide)
 have G_w_open_at:qW P w K mg base jW 1 t.gw t.y9 ["_law_rows_here","_law_at"] (oU K):=(sV T).mono (by decide)
 refine T.wL.fn.ok jj (fun vs H Q E h=>(by obtain⟨_,_,_,_,_,_,_,_,rfl,_⟩:=h;rfl)) (fun cdv A outer s H vs Q E hr h=>?_)
 obtain⟨d,l,c,cell,ps,as,qK,evs,rfl,hD,hL,hh,he,c0,c1,kk⟩:=h
 refine⟨_,(z8 (qi (i:=4) jj.nd rfl (Or.inl rfl) (qk qC (qk kL (pv 3) z9) (qk xk (qG (jv (K:=K) rfl) rfl T.kf PySem.boot_len (z6 (pv 1) qz)) z9)))
   (z8 (qi (i:=5) jj.nd rfl (Or.inl rfl) (qZ G_w_odd_row hr rfl T.g7.mg T.g7.fn.kp T.g7.bd .nil qY (z6 (pv 0) (z6 (pv 1) (z6 (pv 4) (z6 (qZ G_w_mix hr rfl T.jd.mg T.jd.fn.kp T.jd.bd .nil qY (z6 (pv 3) (z6 z9 qz))) qz))))))
   (z8 (PS.join (qM (PW.pt (gX (ql jk (qk qC (pv 3) z9) z9 (qe _)) (yh (ql ll (pv 4) (qk xk z9 (pv 2)) (qe _)))))
    (qx (qi (i:=5) jj.nd rfl (Or.inl rfl) (qk qj qq (qJ (qu (K:=K) rfl) (pv 0) z9 (fun _ _=>rfl))))) qo))
   (z8 (PS.join (qM (PW.pt (gX (ql jk (qk qC (pv 3) z9) z9 (qe _)) (gX (ql ll (pv 4) z9 (qe _)) (yh (ql jk (qZ G_w_open_at hr rfl T.g8.mg T.g8.fn.kp T.g8.bd .nil qY (z6 (pv 1) (z6 (pv 4) qz))) z9 (qe _))))))
    (qx (qi (i:=5) jj.nd rfl (Or.inl rfl) qq)) qo))
   (z8 (PS.join (qM (PW.pt (gX (ql jk (qk qC (pv 3) z9) z9 (qe _)) (yh (ql ue (pv 4) z9 (qe _)))))
    (qx (qi (i:=5) jj.nd rfl (Or.inl rfl) (qk qj qq (qJ (qu (K:=K) rfl) (pv 0) z9 (fun _ _=>rfl))))) qo))
   (z8 (PS.join (qM (PW.pt (gX (ql jk (qk qC (pv 3) z9) z9 (qe _)) (yh (ql ue (pv 4) z9 (qe _)))))
    (qx (qi (i:=5) jj.nd rfl (Or.inl rfl) (qk qj qq (qJ (qu (K:=K) rfl) (pv 0) z9 (fun _ _=>rfl))))) qo))
   (z8 (PS.join (qM (PW.pt (gX (ql jk (qk qC (pv 3) z9) z9 (qe _)) (yh (ql ur (pv 4) z9 (qe _)))))
    (qx (qi (i:=5) jj.nd rfl (Or.inl rfl) (qk qj (qk qj (qk qj qq (qJ (qu (K:=K) rfl) (pv 0) z9 (fun _ _=>rfl))) qq) (qJ (qu (K:=K) rfl) (pv 0) z9 (fun _ _=>rfl))))) qo))
   (z8 (PS.join (qM (ql jk (qk qC (pv 3) z9) z9 (qe _))
    (qx (qi (i:=5) jj.nd rfl (Or.inl rfl) (vw PySem.F.plainAttrs_str PySem.F.slot_str_join PySem.F.type_str_join (yJ (K:=K) rfl) qq (z6 (jN (j4 (K:=K) rfl) (qk xU (pv 1) (jN (j4 (K:=K) rfl) (pv 1) kg (jE z9))) (jE (pv 4)) (jE (qk xk (pv 4) z9))) qz)))) qo))
   (z8 (qi (i:=6) jj.nd rfl (Or.inl rfl) (jN (j4 (K:=K) rfl) (pv 1) (jE (qk xk (pv 4) (qk qC (qZ G_w_mix hr rfl T.jd.mg T.jd.fn.kp T.jd.bd .nil qY (z6 (pv 3) (z6 z9 qz))) z9))) kg))
   (z8 (PS.join (qM (ql jk (qk qC (qZ G_w_mix hr rfl T.jd.mg T.jd.fn.kp T.jd.bd .nil qY (z6 (pv 3) (z6 z9 qz))) z9) z9 (qe _))
    (qx (qi (i:=6) jj.nd rfl (Or.inl rfl) (qk xU (jN (j4 (K:=K) rfl) (pv 6) kg (jE z9)) (jN (j4 (K:=K) rfl) (pv 6) (jE z9) kg)))) qo))
   (qx (qt (yz (z6 (pv 4) (z6 (qk xU (qk xU (jN (j4 (K:=K) rfl) (pv 1) kg (jE (pv 4))) (qO (z6 (pv 5) qz))) (pv 6)) qz))))))))))))))),?_⟩
 have hgd:=Xu hh.w he.ok
 have hrl:=@gI ps as qK evs
 have hel:=he.len
 have hr1:=hh.r1
 have hr2:=hh.r2
 have hodd:∀{k:Nat} {x:Str},k≤(rowsOf ps as qK evs).length→we x→u9 (rowsOf ps as qK evs) k x:=fun hk hx=>Kl hh he hk hx
 have hsore:∀{k:Nat} {n:Str},k≤(rowsOf ps as qK evs).length→qw n=true→2 + qK.length < k→u9 (rowsOf ps as qK evs) k (wD ("sore",n)):=fun hk hn h2=>JM hh he hk hn h2
 have hdone:∀{k:Nat},k≤(rowsOf ps as qK evs).length→2≤k→((rowsOf ps as qK evs).take k).foldl sW 0=0→u9 (rowsOf ps as qK evs) k "done":=fun hk h2 ho=>JP hh he hk h2 ho
 have hpar:∀{k:Nat} {n:Str},k≤(rowsOf ps as qK evs).length→qw n=true→k≠0→u9 (rowsOf ps as qK evs) k (qQ ["parties",n]):=fun hk hn h2=>Ks hh he hk hn h2
 have hact:∀{k:Nat} {n:Str},k≤(rowsOf ps as qK evs).length→qw n=true→k≠1→u9 (rowsOf ps as qK evs) k (qQ ["acts",n]):=fun hk hn h2=>Ku hh he hk hn h2
 have hlet:∀{k:Nat} {a b:Str},k≤(rowsOf ps as qK evs).length→qw a=true→qw b=true→k < 3→u9 (rowsOf ps as qK evs) k (Ew.row (.lt a b)):=fun hk ha hb h3=>Kr hh he hk ha hb h3
 generalize rowsOf ps as qK evs=rows at *
 clear hh he
 walk_at "rd"
 refine⟨l,_,rfl,.inl (jx.of hL),?_⟩
 rw[List.length_map]
 have m0:0≤cell / 7 % ((rows.length:Int) + 1):=Int.emod_nonneg _ (by omega)
 have m1:cell / 7 % ((rows.length:Int) + 1) < (rows.length:Int) + 1:=Int.emod_lt_of_pos _ (by omega)
 refine⟨_,_,rfl,rfl,?_⟩
 refine⟨_,_,rfl,rfl,(show (0:Int) < (rows.length:Int) + 1 by omega),?_⟩
 obtain⟨n,en⟩:=Int.eq_ofNat_of_zero_le m0
 show dH 4 (V.int (cell / 7 % ((rows.length:Int) + 1))) _ _ _
 rw[en] at m1 ⊢
 clear en m0
 have hn:n≤rows.length:=by omega
 have x1:=fH cell 1
 have x2:=fH cell 2
 have x3:=fH cell 3
 walk_at "rd"
 refine⟨d,l,c,(n:Int),_,rows,rfl,hD,jx.of hL,by omega,by omega,hgd,by omega,x1.1,fun y1 H1 hy1 s1=>?_⟩
 have sp1:=hodd hn hy1
 have hD1:=s1.seq hD
 have hL1:=s1 _ _ hL
 have hN:=dq c
 have g0:(NN c).getD (0:Int).toNat (Str.ofString "")=yU c 0:=gr c (i:=0) (by decide)
 have g1:(NN c).getD (1:Int).toNat (Str.ofString "")=yU c 1:=gr c (i:=1) (by decide)
 have g102:(NN c).getD (102:Int).toNat (Str.ofString "")=yU c 102:=gr c (i:=102) (by decide)
 have g103:(NN c).getD (103:Int).toNat (Str.ofString "")=yU c 103:=gr c (i:=103) (by decide)
 have n0:=dt c 0
 have n1:=dt c 1
 have n102:=dt c 102
 have n103:=dt c 103
 have w1:(Str.ofString "parties ").length=8:=by decide +kernel
 have w2:(Str.ofString "acts ").length=5:=by decide +kernel
 have w3:(Str.ofString "sore ").length=5:=by decide +kernel
 refine⟨fun σ' H'=>(∃(x:Str),σ'=[some (.ref d),some (.ref l),some (.int (qK.length:Nat)),some (.int cell),some (.int (n:Nat)),some (.str x),none]∧qf H1 H'∧u9 rows n x)∨False,?_,?_⟩
 ·walk_at "rd"
  refine jy (fun _=>?_) (fun _=>yR (.inl ⟨_,rfl,qf.refl _,sp1⟩))
  walk_at "rd"
  refine jy (fun h1=>?_) (fun _=>.inl ⟨_,rfl,qf.refl _,sp1⟩)
  have h1':(2:Int) + (qK.length:Nat) < (n:Nat):=of_decide_eq_true h1
  walk_at "rd"
  rw[g103]
  refine⟨qp (by omega),.inl ⟨_,rfl,qf.refl _,?_⟩⟩
  rw[show Str.ofString "sore " ++ yU c 103=wD ("sore",yU c 103) from QX rT.2.2.2 _]
  exact hsore hn (gf c) (by omega)
 clear hsore sp1 hy1
 rintro σ' H2 (⟨y2,rfl,s2,sp2⟩ | ⟨⟨⟩⟩)
 have hD2:=s2.seq hD1
 have hL2:=s2 _ _ hL1
 refine⟨fun σ' H'=>(∃(x:Str),σ'=[some (.ref d),some (.ref l),some (.int (qK.length:Nat)),some (.int cell),some (.int (n:Nat)),some (.str x),none]∧qf H2 H'∧u9 rows n x)∨False,?_,?_⟩
 ·walk_at "rd"
  refine jy (fun _=>?_) (fun _=>yR (.inl ⟨_,rfl,qf.refl _,sp2⟩))
  walk_at "rd"
  refine jy (fun h1=>?_) (fun _=>yR (.inl ⟨_,rfl,qf.refl _,sp2⟩))
  have h1':(1:Int) < (n:Nat):=of_decide_eq_true h1
  refine⟨_,rfl,_,rfl,l,(n:Nat),rows,rfl,jx.of hL2,by omega,by omega,by omega,fun x hx=>(hgd x hx).sh,fun H3 s3=>?_⟩
  rw[Int.toNat_natCast]
  walk_at "rd"
  refine jy (fun h2=>?_) (fun _=>.inl ⟨_,rfl,s3,sp2⟩)
  have h2':(rows.take n).foldl sW 0=0:=V.int.inj (of_decide_eq_true h2)
  walk_at "rd"
  exact .inl ⟨_,rfl,s3,hdone hn (by omega) h2'⟩
 clear hdone sp2
 rintro σ' H3 (⟨y3,rfl,s3,sp3⟩ | ⟨⟨⟩⟩)
 have hD3:=s3.seq hD2
 have hL3:=s3 _ _ hL2
 refine⟨fun σ' H'=>(∃(x:Str),σ'=[some (.ref d),some (.ref l),some (.int (qK.length:Nat)),some (.int cell),some (.int (n:Nat)),some (.str x),none]∧qf H3 H'∧u9 rows n x)∨False,?_,?_⟩
 ·walk_at "rd"
  refine jy (fun _=>?_) (fun _=>yR (.inl ⟨_,rfl,qf.refl _,sp3⟩))
  walk_at "rd"
  refine jy (fun h1=>?_) (fun _=>.inl ⟨_,rfl,qf.refl _,sp3⟩)
  have h1':n≠0:=fun z=>by rw[z] at h1;exact absurd h1 (by decide)
  walk_at "rd"
  rw[g102]
  refine⟨qp (by omega),.inl ⟨_,rfl,qf.refl _,?_⟩⟩
  rw[show Str.ofString "parties " ++ yU c 102=qQ ["parties",yU c 102] from QX rT.1 _]
  exact hpar hn (gf c) h1'
 clear hpar sp3
 rintro σ' H4 (⟨y4,rfl,s4,sp4⟩ | ⟨⟨⟩⟩)
 have hD4:=s4.seq hD3
 have hL4:=s4 _ _ hL3
 refine⟨fun σ' H'=>(∃(x:Str),σ'=[some (.ref d),some (.ref l),some (.int (qK.length:Nat)),some (.int cell),some (.int (n:Nat)),some (.str x),none]∧qf H4 H'∧u9 rows n x)∨False,?_,?_⟩
 ·walk_at "rd"
  refine jy (fun _=>?_) (fun _=>yR (.inl ⟨_,rfl,qf.refl _,sp4⟩))
  walk_at "rd"
  refine jy (fun h1=>?_) (fun _=>.inl ⟨_,rfl,qf.refl _,sp4⟩)
  have h1':n≠1:=fun z=>by rw[z] at h1;exact absurd h1 (by decide)
  walk_at "rd"
  rw[g102]
  refine⟨qp (by omega),.inl ⟨_,rfl,qf.refl _,?_⟩⟩
  rw[show Str.ofString "acts " ++ yU c 102=qQ ["acts",yU c 102] from QX rT.2.1 _]
  exact hact hn (gf c) h1'
 clear hact sp4
 rintro σ' H5 (⟨y5,rfl,s5,sp5⟩ | ⟨⟨⟩⟩)
 have hD5:=s5.seq hD4
 have hL5:=s5 _ _ hL4
 have ha0:qw (yU c 0)=true:=gf c
 have ha1:qw (yU c 1)=true:=gf c
 refine⟨fun σ' H'=>(∃(x:Str),σ'=[some (.ref d),some (.ref l),some (.int (qK.length:Nat)),some (.int cell),some (.int (n:Nat)),some (.str x),none]∧qf H5 H'∧u9 rows n x)∨False,?_,?_⟩
 ·walk_at "rd"
  refine jy (fun _=>?_) (fun _=>yR (.inl ⟨_,rfl,qf.refl _,sp5⟩))
  walk_at "rd"
  refine jy (fun h1=>?_) (fun _=>.inl ⟨_,rfl,qf.refl _,sp5⟩)
  have h1':((n:Nat):Int) < 3:=of_decide_eq_true h1
  walk_at "rd"
  rw[g0]
  have w4:(Str.ofString "let ").length=4:=by decide +kernel
  have w5:(Str.ofString " be ").length=4:=by decide +kernel
  refine⟨qp (by omega),?_⟩
  refine⟨_,_,rfl,rfl,qp (by rw[len_app];omega),?_⟩
  walk_at "rd"
  rw[g1]
  refine⟨qp (by rw[len_app,len_app];omega),.inl ⟨_,rfl,qf.refl _,?_⟩⟩
  rw[Jm]
  exact hlet hn ha0 ha1 (by omega)
 clear hlet sp5
 rintro σ' H6 (⟨y6,rfl,s6,sp6⟩ | ⟨⟨⟩⟩)
 have hL6:=s6 _ _ hL5
 clear hD hD1 hD2 hD3 hD4 hD5 hL1 hL2 hL3 hL4 hL5 g0 g1 g102 g103 n0 n1 n102 n103 w1 w2 w3 ha0 ha1
 have s16:qf H H6:=((((s1.trans s2).trans s3).trans s4).trans s5).trans s6
 clear s1 s2 s3 s4 s5 s6
 refine⟨fun σ' H'=>(∃(x:Str),σ'=[some (.ref d),some (.ref l),some (.int (qK.length:Nat)),some (.int cell),some (.int (n:Nat)),some (.str x),none]∧qf H6 H'∧u9 rows n x)∨False,?_,?_⟩
 ·walk_at "rd"
  refine jy (fun _=>?_) (fun _=>.inl ⟨_,rfl,qf.refl _,sp6⟩)
  walk_at "rd"
  intro l7 H7 s7 hl7 e7
  rw[show (2:Int)=((2:Nat):Int) from rfl,gG] at e7
  refine⟨l,l7,_,_,rfl,rfl,s7 _ _ hL6,e7,qp (by rw[List.length_map,List.length_map,List.length_take];omega),?_⟩
  rw[←List.map_append]
  intro l8 H8 s8 hl8 e8
  have h22:n + 2≤(rows ++ rows.take 2).length:=by rw[List.length_append,List.length_take];omega
  walk_at "rd"
  rw[show ((n:Nat):Int) + 2=((n + 2:Nat):Int) by omega,eM V.str _ n 2 h22]
  intro l9 H9 s9 hl9 e9
  obtain⟨u,v,euv,hu,hv⟩:=W8 h22
  rw[euv] at e9
  have hm:∀z∈rows ++ rows.take 2,Gd z:=fun z hz=>(List.mem_append.mp hz).elim (hgd z) fun q=>hgd z (List.mem_of_mem_take q)
  have gu:=hm u hu
  have gv:=hm v hv
  have lu:=gu.sh
  have lv:=gv.sh
  walk_at "rd"
  refine⟨_,l9,[u,v],rfl,rfl,jx.of e9,?_,?_⟩
  ·have w6:(Str.ofString ";").length=1:=by decide +kernel
   simp only[List.map_cons,List.map_nil,List.sum_cons,List.sum_nil,List.length_cons,List.length_nil,w6]
   omega
  rw[join_eq,L2.cT,L2.join_one]
  exact .inl ⟨_,rfl,(s7.trans s8).trans s9,hodd hn (nA gu gv)⟩
 clear sp6
 rintro σ' H7 (⟨y7,rfl,s7,sp7⟩ | ⟨⟨⟩⟩)
 have hL7:=s7 _ _ hL6
 have q20:0≤wH cell 2 % 2:=Int.emod_nonneg _ (by decide)
 have q21:wH cell 2 % 2 < 2:=Int.emod_lt_of_pos _ (by decide)
 walk_at "rd"
 obtain⟨m,em⟩:=Int.eq_ofNat_of_zero_le (show 0≤(n:Int) + wH cell 2 % 2 by omega)
 rw[em,yn]
 clear em q20 q21
 intro l8 H8 s8 hl8 e8
 obtain⟨R,f8,r1,r2⟩:∃R:List Str,H8 l8=some (.lst (R.map V.str))∧(∀y∈R,y∈rows)∧R.length≤rows.length:=⟨_,e8,fun y hy=>List.mem_of_mem_drop hy,by rw[List.length_drop];omega⟩
 clear e8
 refine⟨fun σ' H'=>(∃(b:Addr) (R:List Str),σ'=[some (.ref d),some (.ref l),some (.int (qK.length:Nat)),some (.int cell),some (.int (n:Nat)),some (.str y7),some (.ref b)]∧qf H8 H'∧H' b=some (.lst (R.map V.str))∧(∀y∈R,y∈rows)∧R.length≤rows.length)∨False,?_,?_⟩
 ·walk_at "rd"
  refine jy (fun _=>?_) (fun _=>.inl ⟨_,_,rfl,qf.refl _,f8,r1,r2⟩)
  walk_at "rd"
  intro l9 H9 s9 hl9 e9
  rw[show (1:Int)=((1:Nat):Int) from rfl,gG] at e9
  have f9:=s9 _ _ f8
  walk_at "rd"
  intro l10 H10 s10 hl10 e10
  rw[show (2:Int)=((2:Nat):Int) from rfl,yn] at e10
  refine⟨l9,l10,_,_,rfl,rfl,s10 _ _ e9,e10,qp (by rw[List.length_map,List.length_map,List.length_take,List.length_drop];omega),?_⟩
  rw[←List.map_append]
  intro l11 H11 s11 hl11 e11
  refine .inl ⟨_,_,rfl,(s9.trans s10).trans s11,e11,fun y hy=>(List.mem_append.mp hy).elim (fun q=>r1 y (List.mem_of_mem_take q)) (fun q=>r1 y (List.mem_of_mem_drop q)),?_⟩
  rw[List.length_append,List.length_take,List.length_drop]
  omega
 clear f8 r1 r2
 rintro σ' H9 (⟨lb,R9,rfl,s9,e9,r1,r2⟩ | ⟨⟨⟩⟩)
 have hL9:=s9 _ _ (s8 _ _ hL7)
 walk_at "rd"
 rw[gG]
 intro l10 H10 s10 hl10 e10
 walk_at "rd"
 intro l11 H11 s11 hl11 e11
 refine⟨l10,l11,_,_,rfl,rfl,s11 _ _ e10,e11,qp (by rw[List.length_map,List.length_take];simp only[List.length_cons,List.length_nil];omega),?_⟩
 intro l12 H12 s12 hl12 e12
 have e912:=s12 _ _ (s11 _ _ (s10 _ _ e9))
 refine⟨_,rfl,l12,lb,_,_,rfl,rfl,e12,e912,qp (by simp only[List.length_append,List.length_map,List.length_take,List.length_cons,List.length_nil];omega),?_⟩
 intro l13 H13 s13 hl13 e13
 refine⟨qp (by simp only[List.length_cons,List.length_nil];omega),?_⟩
 intro p H14 s14 hp e14
 have e13':H13 l13=some (.lst ((rows.take n ++ y7 :: R9).map V.str)):=by
  rw[e13,List.map_append,List.map_cons,List.append_assoc];rfl
 exact kk n y7 R9 p l13 H14 sp7 hn r1 r2 ((((((((s16.trans s7).trans s8).trans s9).trans s10).trans s11).trans s12).trans s13).trans s14) e14 (s14 _ _ e13')
end
theorem Xk:bootBuiltins (Str.ofString "ValueError")=some (Value.type "ValueError"):=by kernel_rfl
noncomputable def Vs (t:xj):Sp:=fun vs H Q _=>∃(a:Addr) (n:Int),vs=[.ref a]∧VF H a t.qI [("row",.int n)]∧Q (.bl true) H
noncomputable def HH (t:xj) (rows:List Str) (H:Hp):XK:=fun c o H'=>∃n:Nat,xp rows=.error n∧Qt t n H c o H'
noncomputable def dA:Sp:=fun vs H Q _=>∃(x:Str),vs=[.str x]∧x.length≤60000∧bT (Txt.split x "; ")∧(∀r H',xp (Txt.split x "; ")=.ok r→qf H H'→Q .non H')∧∀(n:Nat) H',xp (Txt.split x "; ")=.error n→qf H H'→Q (.int n) H'
section
variable {P:Program} {w:World} {K:PySem.W.Frag} {mg:Str→Option Value} {base:Heap} {t:xj}
theorem tQ:qV ["_law_e"] ["_law_e"] (z7 xi):=⟨rfl,rfl,rfl,by decide +kernel,rfl,by decide +kernel,by decide +kernel⟩
set_option maxHeartbeats 400000 in
theorem sJ (T:Txt K mg t):qW P w K mg base jW 1 t.gx t.y0 ["_law_e"] (Vs t):=by
 refine T.g6.fn.ok tQ (fun vs H Q E h=>(by obtain⟨_,_,rfl,_⟩:=h;rfl)) (fun cdv A outer s H vs Q E hr h=>?_)
 obtain⟨a,n,rfl,hx,k⟩:=h
 refine⟨_,(z8 (qM (PW.pt (vU (j6 (qG (jo (K:=K) rfl) rfl T.q0 PyProof.Rows.boot_isinstance (z6 (pv 0) (z6 (jm rfl T.nU (v:=.ref t.mq) rfl) qz)))) (vU (j6 (qG (jo (K:=K) rfl) rfl T.q0 PyProof.Rows.boot_isinstance (z6 (pv 0) (z6 (jm rfl T.cA (v:=.ref t.bj) rfl) qz)))) (vU (j6 (qG (jo (K:=K) rfl) rfl T.q0 PyProof.Rows.boot_isinstance (z6 (pv 0) (z6 (jm rfl T.nC (v:=.ref t.mz) rfl) qz)))) (vI (j6 (qG (jo (K:=K) rfl) rfl T.q0 PyProof.Rows.boot_isinstance (z6 (pv 0) (z6 (jm rfl T.rO (v:=.ref t.pS) rfl) qz)))))))))
    (qx (qt wF)) qo)
   (z8 (qM (PW.pt (vU (j6 (qG (jo (K:=K) rfl) rfl T.q0 PyProof.Rows.boot_isinstance (z6 (pv 0) (z6 (jm rfl T.nD (v:=.ref t.fE) rfl) qz)))) (vU (j6 (qG (jo (K:=K) rfl) rfl T.q0 PyProof.Rows.boot_isinstance (z6 (pv 0) (z6 (jm rfl T.rN (v:=.ref t.pL) rfl) qz)))) (vI (j6 (qG (jo (K:=K) rfl) rfl T.q0 PyProof.Rows.boot_isinstance (z6 (pv 0) (z6 (jm rfl T.nR (v:=.ref t.mj) rfl) qz))))))))
    (qx (qt wF)) qo)
   (z8 (qM (PW.pt (vU (j6 (qG (jo (K:=K) rfl) rfl T.q0 PyProof.Rows.boot_isinstance (z6 (pv 0) (z6 (jm rfl T.c9 (v:=.ref t.bw) rfl) qz)))) (vU (j6 (qG (jo (K:=K) rfl) rfl T.q0 PyProof.Rows.boot_isinstance (z6 (pv 0) (z6 (jm rfl T.af (v:=.ref t.cy) rfl) qz)))) (vI (yB (j6 (qG (jo (K:=K) rfl) rfl T.q0 PyProof.Rows.boot_isinstance (z6 (pv 0) (z6 (sU rfl T.fN Xk (v:=.ty "ValueError") rfl) qz)))))))))
    (qx (qt wF)) qo)
   (qx (qt (sF (qG (jo (K:=K) rfl) rfl T.q0 PyProof.Rows.boot_isinstance (z6 (pv 0) (z6 (jm rfl T.wG (v:=.ref t.qI) rfl) qz))) (sF (qG (mx (K:=K) rfl) rfl T.q0 PyProof.Rows.boot_isinstance (z6 (sL (K:=K) rfl (pv 0) rfl) (z6 (sU rfl T.fO PyProof.Rows.boot_int (v:=.ty "int") rfl) qz))) (sR (Wa (qG (mx (K:=K) rfl) rfl T.q0 PyProof.Rows.boot_isinstance (z6 (sL (K:=K) rfl (pv 0) rfl) (z6 (sU rfl T.Qk PyProof.Rows.boot_bool (v:=.ty "bool") rfl) qz)))))))))))),?_⟩
 have ty:=T.fS
 refine⟨_,rfl,a,_,_,_,_,rfl,.inr ⟨_,rfl⟩,hx,ty,T.gD,_,rfl,yR ?_⟩
 refine⟨_,rfl,a,_,_,_,_,rfl,.inr ⟨_,rfl⟩,hx,ty,T.ya,_,rfl,yR ?_⟩
 refine⟨_,rfl,a,_,_,_,_,rfl,.inr ⟨_,rfl⟩,hx,ty,T.gM,_,rfl,yR ?_⟩
 refine⟨_,rfl,a,_,_,_,_,rfl,.inr ⟨_,rfl⟩,hx,ty,T.gg,_,rfl,yR ?_⟩
 refine⟨_,rfl,a,_,_,_,_,rfl,.inr ⟨_,rfl⟩,hx,ty,T.gF,_,rfl,yR ?_⟩
 refine⟨_,rfl,a,_,_,_,_,rfl,.inr ⟨_,rfl⟩,hx,ty,T.gy,_,rfl,yR ?_⟩
 refine⟨_,rfl,a,_,_,_,_,rfl,.inr ⟨_,rfl⟩,hx,ty,T.gC,_,rfl,yR ?_⟩
 refine⟨_,rfl,a,_,_,_,_,rfl,.inr ⟨_,rfl⟩,hx,ty,T.yZ,_,rfl,yR ?_⟩
 refine⟨_,rfl,a,_,_,_,_,rfl,.inr ⟨_,rfl⟩,hx,ty,T.bH,_,rfl,yR ?_⟩
 refine⟨_,rfl,a,_,_,_,_,rfl,.inl ⟨_,rfl⟩,hx,ty,T.wW,_,rfl,?_⟩
 walk_at "rd"
 refine⟨a,_,_,_,_,rfl,.inr ⟨_,rfl⟩,hx,ty,T.gU,?_⟩
 walk_at "rd"
 refine⟨a,_,_,.int n,rfl,hx,ty,T.kC,xb,?_⟩
 walk_at "rd"
 refine⟨a,_,_,.int n,rfl,hx,ty,T.kC,xb,?_⟩
 walk_at "rd"
 refine⟨_,_,.type "int",false,rfl,.inl ⟨_,rfl⟩,bq.int _,T.dM,?_⟩
 walk_at "rd"
 exact k
theorem kT:qV ["_law_text","_law_caught","_law_e"] ["_law_text"] (z7 jJ):=⟨rfl,rfl,rfl,by decide +kernel,rfl,by decide +kernel,by decide +kernel⟩
set_option maxHeartbeats 400000 in
theorem cj (T:Txt K mg t):qW P w K mg base jW 10 t.vZ t.vn ["_law_text"] dA:=by
 have G_w_no_text:qW P w K mg base jW 9 t.gx t.y0 ["_law_e"] (Vs t):=(sJ T).mono (by decide)
 have G_v_read:qW P w K mg base (lP P w) 9 t.mr t.mh ["text"] (JY t):=(Zs T).mono (by decide)
 refine T.jX.fn.ok kT (fun vs H Q E h=>(by obtain⟨_,rfl,_⟩:=h;rfl)) (fun cdv A outer s H vs Q E hr h=>?_)
 obtain⟨x,rfl,hx,hR,k0,k1⟩:=h
 refine⟨_,(z8 (qi (i:=1) kT.nd rfl (Or.inl rfl) vY)
   (z8 (XI (Eh:=(HH t (Txt.split x "; ") H)) (i:=2) (fun _ _ z=>z) rfl rfl kT.nd rfl rfl rfl T.dU (Jj (fun _ _ z=>z) G_v_read hr rfl T.uT.mg T.uT.fn.kp T.uT.bd .nil (z6 (pv 0) qz))
   (fun aa=>(qx (qi (i:=1) kT.nd rfl (Or.inl rfl) (pv 2)))))
   (z8 (qM (ql sY (pv 1) vY (qe _))
    (qx (qt vY)) qo)
   (z8 (qM (yB (j6 (qZ G_w_no_text hr rfl T.g6.mg T.g6.fn.kp T.g6.bd .nil qY (z6 (pv 1) qz))))
    (qx (qt (Vc JS z9))) qo)
   (qx (qt (sL (K:=K) rfl (pv 1) rfl))))))),?_⟩
 refine⟨?_,?_⟩
 ·refine⟨_,rfl,x,rfl,hx,hR,fun n hN c o H' z=>⟨n,hN,z⟩,fun ps as qK rw p H' hS s' _=>?_⟩
  walk_at "rd"
  exact k0 _ H' hS s'
 rintro C a H1 ⟨n,hN,a',ea,ec,s1,hx1⟩
 obtain rfl:a=a':=Option.some.inj ea
 obtain rfl:C=t.qI:=Value.ref.inj ec
 refine⟨T.yj,?_⟩
 walk_at "rd"
 exact⟨a,_,_,.int n,rfl,hx1,T.fS,T.kC,xb,k1 n H1 hN s1⟩
end
theorem Yf {c:Int} {ys:List V} (hlen:ys.length=104) (hp:∀(i:Nat) (v:V),i < 104→ys[i]?=some v→v=.str (yU c (i:Int))):ys=(NN c).map V.str:=by
 apply List.ext_getElem?
 intro i
 by_cases hi:i < 104
 ·have hi':i < ys.length:=by omega
  rw[List.getElem?_eq_getElem hi',List.getElem?_map]
  unfold NN
  rw[List.getElem?_map,List.getElem?_range hi]
  exact congrArg some (hp i _ hi (List.getElem?_eq_getElem hi'))
 ·rw[List.getElem?_eq_none_iff.mpr (by omega),List.getElem?_eq_none_iff.mpr (by rw[List.length_map,dq];omega)]
noncomputable def PY {α:Type}:Except Nat α→V
 | .error n=>.int (n:Nat)
 | .ok _=>.non
theorem oZ {rows:List Str} {H:Hp} {Q:VK} {E:XK} (hF:∀x∈rows,u7 x) (hl:rows.length≤100) (hne:rows≠[]) (hr:∃r,xp rows=.ok r) (k:∀H',qf H H'→Q .non H'):dA [.str (Txt.join (Str.ofString "; ") rows)] H Q E:=by
 have hsp:Txt.split (Txt.join (Str.ofString "; ") rows) (Str.ofString "; ")=rows:=ZV hne fun x hx=>(hF x hx).fr
 have h1:=uS (n:=180) (xs:=rows) fun x hx=>(hF x hx).sh
 have h2:=cS (Str.ofString "; ") rows
 have h3:(Str.ofString "; ").length=2:=by decide +kernel
 rw[h3] at h2
 refine⟨_,rfl,by omega,by rw[hsp];exact⟨by omega,fun x hx=>Nat.le_trans (hF x hx).sh (by decide)⟩,fun r H' e s=>k H' s,fun n H' e s=>?_⟩
 rw[hsp] at e
 obtain⟨r,er⟩:=hr
 rw[er] at e
 cases e
theorem Kk {rows:List Str} {n:Nat} {H:Hp} {Q:VK} {E:XK} (hsp:Txt.split (Txt.join (Str.ofString "; ") rows) (Str.ofString "; ")=rows) (hR:bT rows) (hl:(rows.map (·.length)).sum + rows.length * (Str.ofString "; ").length≤59000) (hr:xp rows=.error n) (k:∀H',qf H H'→Q (.int (n:Nat)) H'):dA [.str (Txt.join (Str.ofString "; ") rows)] H Q E:=by
 have h2:=cS (Str.ofString "; ") rows
 refine⟨_,rfl,by omega,by rw[hsp];exact hR,fun r H' e s=>?_,fun m H' e s=>?_⟩
 ·rw[hsp,hr] at e;cases e
 ·rw[hsp,hr] at e;cases e;exact k H' s
noncomputable def JK (K:PySem.W.Frag):Sp:=fun vs H Q _=>∃(a:Addr) (ns:List Int),vs=[.ref a]∧jx K H a (ns.map V.int)∧ns.length≤63∧∀H',Q (.bl true) H'
section
variable {P:Program} {w:World} {K:PySem.W.Frag} {mg:Str→Option Value} {base:Heap} {t:xj}
seal dA
theorem yP:qV ["_law_script","_law_names","_law_header_here","_law_rows_here","_law_cell","_law_at","_law_spoilt"] ["_law_script"] (z7 wm):=⟨rfl,rfl,rfl,by decide +kernel,rfl,by decide +kernel,by decide +kernel⟩
set_option maxHeartbeats 2000000 in
theorem Q2 (T:Txt K mg t):qW P w K mg base jW 11 t.md t.cg ["_law_script"] (JK K):=by
 have G_w_cell_at:qW P w K mg base jW 10 t.wK t.wQ ["_law_script","_law_k"] (iN K):=(mU T).mono (by decide)
 have G_w_events:qW P w K mg base jW 10 t.bt t.bc ["_law_names","_law_script"] (oM K):=(ow T).mono (by decide)
 have G_w_header:qW P w K mg base jW 10 t.bo t.bu ["_law_names","_law_cell"] (JQ K):=(oy T).mono (by decide)
 have G_w_mix:qW P w K mg base jW 10 t.gj t.yA ["_law_cell","_law_k"] lX:=(pV T).mono (by decide)
 have G_w_name:qW P w K mg base jW 10 t.ml t.mf ["_law_cell","_law_k"] aG:=(Zt T).mono (by decide)
 have G_w_refused_at:qW P w K mg base jW 10 t.vZ t.vn ["_law_text"] dA:=(cj T).mono (by decide)
 have G_w_rows:qW P w K mg base jW 10 t.mi t.mm ["_law_header_here","_law_events_here"] (JH K):=(Zn T).mono (by decide)
 have G_w_spoilt_at:qW P w K mg base jW 10 t.wx t.v8 ["_law_names","_law_rows_here","_law_many","_law_cell"] (aP K):=(uu T).mono (by decide)
 refine T.JT.fn.ok yP (fun vs H Q E h=>(by obtain⟨_,_,rfl,_⟩:=h;rfl)) (fun cdv A outer s H vs Q E hr h=>?_)
 obtain⟨a,ns,rfl,hS,hl,k⟩:=h
 refine⟨_,(z8 (mL (i:=1) (osc:=z7 wm) (N:=["_law_script","_law_names","_law_header_here","_law_rows_here","_law_cell","_law_at","_law_spoilt"]) (names:=["_law_script"]) (qS:=[0]) rfl rfl rfl yP.nd ⟨rfl,by decide +kernel,by decide +kernel,by decide +kernel,rfl,rfl,by decide +kernel,by decide +kernel⟩ rfl rfl (yu rfl T.yS (z6 z9 qz)) (fun _ _ _=>(qZ G_w_name hr rfl T.uE.mg T.uE.fn.kp T.uE.bd .nil qY (z6 (qZ G_w_mix hr rfl T.jd.mg T.jd.fn.kp T.jd.bd .nil qY (z6 (qZ G_w_cell_at hr rfl T.jl.mg T.jl.fn.kp T.jl.bd .nil qY (z6 (pv 1) (z6 z9 qz))) (z6 z9 qz))) (z6 (pv 0) qz)))))
   (z8 (qi (i:=2) yP.nd rfl (Or.inl rfl) (qZ G_w_header hr rfl T.pC.mg T.pC.fn.kp T.pC.bd .nil qY (z6 (pv 1) (z6 (qZ G_w_mix hr rfl T.jd.mg T.jd.fn.kp T.jd.bd .nil qY (z6 (qZ G_w_cell_at hr rfl T.jl.mg T.jl.fn.kp T.jl.bd .nil qY (z6 (pv 0) (z6 z9 qz))) (z6 z9 qz))) qz))))
   (z8 (qi (i:=3) yP.nd rfl (Or.inl rfl) (qZ G_w_rows hr rfl T.uA.mg T.uA.fn.kp T.uA.bd .nil qY (z6 (pv 2) (z6 (qZ G_w_events hr rfl T.pD.mg T.pD.fn.kp T.pD.bd .nil qY (z6 (pv 1) (z6 (pv 0) qz))) qz))))
   (z8 (qi (i:=4) yP.nd rfl (Or.inl rfl) (qZ G_w_mix hr rfl T.jd.mg T.jd.fn.kp T.jd.bd .nil qY (z6 (qZ G_w_cell_at hr rfl T.jl.mg T.jl.fn.kp T.jl.bd .nil qY (z6 (pv 0) (z6 z9 qz))) (z6 z9 qz))))
   (z8 (qM (ql sH (qZ G_w_refused_at hr rfl T.jX.mg T.jX.fn.kp T.jX.bd .nil qY (z6 (vw PySem.F.plainAttrs_str PySem.F.slot_str_join PySem.F.type_str_join (yJ (K:=K) rfl) qq (z6 (pv 3) qz)) qz)) vY (qe _))
    (qx (qt wF)) qo)
   (z8 (iD (qZ G_w_spoilt_at hr rfl T.wL.mg T.wL.fn.kp T.wL.bd .nil qY (z6 (pv 1) (z6 (pv 3) (z6 (qG (jv (K:=K) rfl) rfl T.kf PySem.boot_len (z6 (qJ (jg (K:=K) rfl) (pv 2) z9 (fun _ _=>rfl)) qz)) (z6 (pv 4) qz))))) (cK (K:=K) rfl rfl (wM (xR (i:=5) yP.nd rfl (Or.inl rfl)) (wM (xR (i:=6) yP.nd rfl (Or.inl rfl)) cV))))
   (z8 (qM (ql ue (qZ G_w_refused_at hr rfl T.jX.mg T.jX.fn.kp T.jX.bd .nil qY (z6 (vw PySem.F.plainAttrs_str PySem.F.slot_str_join PySem.F.type_str_join (yJ (K:=K) rfl) qq (z6 (pv 6) qz)) qz)) (pv 5) (qe _))
    (qx (qt wF)) qo)
   (qx (qt (kX sY (qZ G_w_refused_at hr rfl T.jX.mg T.jX.fn.kp T.jX.bd .nil qY (z6 (vw PySem.F.plainAttrs_str PySem.F.slot_str_join PySem.F.type_str_join (yJ (K:=K) rfl) qq (z6 (pv 3) qz)) qz)) vY (qe _))))))))))),?_⟩
 walk_at "rd"
 have hc:=fH (wZ ns 1) 60
 have hcell:=fH (wZ ns 0) 61
 refine gY fL (fun i _ v=>v=.str (yU (wH (wZ ns 1) 60) (i:Int))) (qp (by decide +kernel)) ?_ ?_
 ·intro i y H' Q' hy s' kk
  have hi:i < 104:=by
   have:=(List.getElem?_eq_some_iff.mp hy).1
   simpa using this
  have hy':y=V.int (0 + (i:Int)):=by
   rw[List.getElem?_map,List.getElem?_range (show i < (104:Int).toNat from hi)] at hy
   exact(Option.some.inj hy).symm
  subst hy'
  refine⟨_,rfl,a,1,ns,rfl,s'.seq hS,by decide,?_⟩
  refine⟨_,_,rfl,by decide,by decide,?_⟩
  refine⟨_,rfl,_,_,rfl,hc.1,by omega,by omega,by omega,fun H4 s4=>?_⟩
  rw[Int.zero_add]
  exact kk _ _ s4 rfl
 intro D H1 ys s1 hD e1 hlen hp
 generalize hcc:wH (wZ ns 1) 60=c at *
 generalize hce:wH (wZ ns 0) 61=cell at *
 obtain rfl:=Yf (c:=c) (ys:=ys) (by rw[hlen];simp) fun i v hi hv=>hp i _ v (by rw[List.getElem?_map,List.getElem?_range (show i < (104:Int).toNat from hi)];rfl) hv
 clear hp hlen
 have hA1:jx K H1 D ((NN c).map V.str):=jx.of e1
 have hS1:=s1.seq hS
 refine⟨_,rfl,_,rfl,a,0,ns,rfl,hS1,by decide,?_⟩
 refine⟨_,_,rfl,by decide,by decide,?_⟩
 rw[hce]
 walk_at "rd"
 refine⟨D,c,cell,rfl,hA1,hcell.1,fun ps as qK p H2 hH s2 hp2 eH=>?_⟩
 have hS2:=s2.seq hS1
 have hA2:=s2.seq hA1
 walk_at "rd"
 refine⟨D,a,c,ns,rfl,hA2,hS2,hl,fun le H3 ws evs s3 hle e3 hP he=>?_⟩
 have hS3:=s3.seq hS2
 have hA3:=s3.seq hA2
 have hel:=he.len
 refine⟨p,le,ps,as,qK,ws,evs,rfl,eH.same s3,hH.hd.w,jx.of e3,hP,he.ok,by omega,fun lr H4 s4 hlr e4=>?_⟩
 have hS4:=s4.seq hS3
 have hA4:=s4.seq hA3
 refine⟨_,rfl,a,2,ns,rfl,hS4,by decide,?_⟩
 refine⟨_,_,rfl,by decide,by decide,?_⟩
 have hcell2:=fH (wZ ns 2) 62
 generalize wH (wZ ns 2) 62=c2 at *
 have hrl:=@gI ps as qK evs
 have hFr:=Kw hH.hd.w he.ok
 have hr2:=hH.hd.r2
 have jw:∃r,xp (rowsOf ps as qK evs)=.ok r:=(Kj hH.hd he.ok he.dp he.nd (by omega)).1 rfl
 have hne:rowsOf ps as qK evs≠[]:=ZX _ _ _ _
 have hsum:((rowsOf ps as qK evs).map (·.length)).sum + (rowsOf ps as qK evs).length * (Str.ofString "; ").length≤30000:=by
  have h1:=uS (n:=180) (xs:=rowsOf ps as qK evs) fun x hx=>(hFr x hx).sh
  have h3:(Str.ofString "; ").length=2:=by decide +kernel
  rw[h3];omega
 have hll:(rowsOf ps as qK evs).length≤100:=by omega
 walk_at "rd"
 refine⟨_,lr,rowsOf ps as qK evs,rfl,rfl,jx.of e4,Nat.le_trans hsum (by decide),?_⟩
 show dA [.str (Txt.join (Str.ofString "; ") (rowsOf ps as qK evs))] H4 _ _
 refine oZ hFr hll hne jw fun H5 s5=>?_
 walk_at "rd"
 obtain⟨lp,la,lq,vs,z1,z2,z3,z4,z5⟩:=eH.same ((s3.trans s4).trans s5)
 have hvl:vs.length=qK.length:=Paired.length z5
 walk_at "rd"
 refine⟨lq,_,rfl,.inl (jx.of z4),?_⟩
 rw[hvl]
 clear z1 z2 z3 z4 z5 hvl
 have e5:=s5 _ _ e4
 refine⟨_,rfl,D,lr,c,c2,ps,as,qK,evs,rfl,s5.seq hA4,e5,hH.hd,he,hcell2.1,by omega,fun n x rest p2 q2 H6 sp hk hrest hrl2 s6 ep eq=>?_⟩
 walk_at "rd"
 obtain⟨jn1,jn2,jn3⟩:=JF sp hFr hrest hll (by omega)
 refine⟨_,q2,(rowsOf ps as qK evs).take n ++ x :: rest,rfl,rfl,jx.of eq,Nat.le_trans jn3 (by decide),?_⟩
 show dA [.str (Txt.join (Str.ofString "; ") ((rowsOf ps as qK evs).take n ++ x :: rest))] H6 _ _
 refine Kk jn1 jn2 jn3 (sp.bad rest) fun H7 s7=>?_
 have e7:=s7 _ _ (s6 _ _ e5)
 walk_at "rd"
 refine⟨_,lr,rowsOf ps as qK evs,rfl,rfl,jx.of e7,Nat.le_trans hsum (by decide),?_⟩
 show dA [.str (Txt.join (Str.ofString "; ") (rowsOf ps as qK evs))] H7 _ _
 refine oZ hFr hll hne jw fun H8 s8=>?_
 walk_at "rd"
 exact k H8
theorem Zf (T:Txt K mg t) (s:Shared) (u:Value):BindsTo s t.cg ⟨[u],[]⟩ [("_law_script",u)]:=by
 obtain⟨oc,od,kV,doc,pm,an,cdv,ct,osl,e,_⟩:=T.JT.fn.ex
 rw[e]
 exact .of_eq rfl
theorem Zm {H:Hp} {a:Addr} {ns:List Int} (hl:ns.length≤63) (_:Z8 H) (hS:jx K H a (ns.map V.int)):JK K [.ref a] H (fun v _=>v=.bl true) fun _ _ _=>False:=
 ⟨a,ns,rfl,hS,hl,fun _=>rfl⟩
end
theorem Xa:(19:Nat)≤sizeLine:=qp (by decide)
theorem XZ {t0 t1 t2 t3 t4 t5 t6 t7 t8 t9 t10 t11 t12 t13 t14 t15 t16 t17 t18:Tok}:Vals (gh.map V.str) ([.str "acts" t0,.str "any" t1,.str "be" t2,.str "by" t3,.str "calm" t4,.str "done" t5,.str "else" t6,.str "end" t7,.str "in" t8,.str "let" t9,.str "may" t10,.str "must" t11,.str "not" t12,.str "part" t13,.str "parties" t14,.str "rest" t15,.str "sore" t16,.str "to" t17,.str "whole" t18]:List Value):=by
 repeat (first | exact .nil | refine .cons ⟨_,rfl⟩ ?_)
theorem QY:(3:Nat)≤sizeLine:=qp (by decide)
theorem QG {t0 t1 t2:Tok}:Vals (jT.map V.str) ([.str "calm" t0,.str "sore" t1,.str "end" t2]:List Value):=by
 repeat (first | exact .nil | refine .cons ⟨_,rfl⟩ ?_)
set_option maxHeartbeats 4000000 in
theorem W9 {K:PySem.W.Frag} {h:Heap} {mg:Str→Option Value} (X:K.In h) (G:h.Ns mainGlobals mg)
  {za zb zc zd ze zf zg zh zi zj zk zl zm zn zo zp zq zr zs zt zu zv zw zx zy zz zA zB zC zD zE zF zG zH zI zJ zK zL zM zN zO zP zQ zR zS zT zU zV zW zX zY zZ zaa zab zac zad zae zaf zag zah zai zaj zak zal zam zan zao zap zaq zar zas:Addr}
  {zat zau:Option Addr} {zav:Array (Option Value)} {zaw zax zay zaz zaA zaB:Value}
  {zaC zaD:Option Addr} {zaE:Array (Option Value)} {zaF zaG zaH zaI zaJ zaK:Value}
  {zaL zaM:Option Addr} {zaN:Array (Option Value)} {zaO zaP zaQ zaR zaS zaT:Value}
  {zaU zaV:Option Addr} {zaW:Array (Option Value)} {zaX zaY zaZ zba zbb zbc:Value}
  {zbd zbe:Option Addr} {zbf:Array (Option Value)} {zbg zbh zbi zbj zbk zbl:Value}
  {zbm zbn:Option Addr} {zbo:Array (Option Value)} {zbp zbq zbr zbs zbt zbu:Value}
  {zbv zbw:Option Addr} {zbx:Array (Option Value)} {zby zbz zbA zbB zbC zbD:Value}
  {zbE zbF:Option Addr} {zbG:Array (Option Value)} {zbH zbI zbJ zbK zbL zbM:Value}
  {zbN zbO:Option Addr} {zbP:Array (Option Value)} {zbQ zbR zbS zbT zbU zbV:Value}
  {zbW zbX:Option Addr} {zbY:Array (Option Value)} {zbZ zca zcb zcc zcd zce:Value}
  {zcf zcg:Option Addr} {zch:Array (Option Value)} {zci zcj zck zcl zcm zcn:Value}
  {zco zcp:Option Addr} {zcq:Array (Option Value)} {zcr zcs zct zcu zcv zcw:Value}
  {zcx zcy:Option Addr} {zcz:Array (Option Value)} {zcA zcB zcC zcD zcE zcF:Value}
  {zcG zcH:Option Addr} {zcI:Array (Option Value)} {zcJ zcK zcL zcM zcN zcO:Value}
  {zcP zcQ:Option Addr} {zcR:Array (Option Value)} {zcS zcT zcU zcV zcW zcX:Value}
  {zcY zcZ:Option Addr} {zda:Array (Option Value)} {zdb zdc zdd zde zdf zdg:Value}
  {zdh zdi:Option Addr} {zdj:Array (Option Value)} {zdk zdl zdm zdn zdo zdp:Value}
  {zdq zdr:Option Addr} {zds:Array (Option Value)} {zdt zdu zdv zdw zdx zdy:Value}
  {zdz zdA:Option Addr} {zdB:Array (Option Value)} {zdC zdD zdE zdF zdG zdH:Value}
  {zdI zdJ:Option Addr} {zdK:Array (Option Value)} {zdL zdM zdN zdO zdP zdQ:Value}
  {zdR zdS:Option Addr} {zdT:Array (Option Value)} {zdU zdV zdW zdX zdY zdZ:Value}
  {zea zeb:Option Addr} {zec:Array (Option Value)} {zed zee zef zeg zeh zei:Value}
  {zej zek:Option Addr} {zel:Array (Option Value)} {zem zen zeo zep zeq zer:Value}
  {zes zet:Option Addr} {zeu:Array (Option Value)} {zev zew zex zey zez zeA:Value}
  {zeB zeC:Option Addr} {zeD:Array (Option Value)} {zeE zeF zeG zeH zeI zeJ:Value}
  {zeK zeL:Option Addr} {zeM:Array (Option Value)} {zeN zeO zeP zeQ zeR zeS:Value}
  {zeT zeU:Option Addr} {zeV:Array (Option Value)} {zeW zeX zeY zeZ zfa zfb:Value}
  {zfc zfd:Option Addr} {zfe:Array (Option Value)} {zff zfg zfh zfi zfj zfk:Value}
  {zfl zfm:Option Addr} {zfn:Array (Option Value)} {zfo zfp zfq zfr zfs zft:Value}
  {zfu zfv:Option Addr} {zfw:Array (Option Value)} {zfx zfy zfz zfA zfB zfC:Value}
  {zfD zfE:Option Addr} {zfF:Array (Option Value)} {zfG zfH zfI zfJ zfK zfL:Value}
  {zfM zfN:Option Addr} {zfO:Array (Option Value)} {zfP zfQ zfR zfS zfT zfU:Value}
  {zfV zfW:Option Addr} {zfX:Array (Option Value)} {zfY zfZ zga zgb zgc zgd:Value}
  {zge zgf:Option Addr} {zgg:Array (Option Value)} {zgh zgi zgj zgk zgl zgm:Value}
  {zgn zgo:Option Addr} {zgp:Array (Option Value)} {zgq zgr zgs zgt zgu zgv:Value}
  {zgw zgx:Option Addr} {zgy:Array (Option Value)} {zgz zgA zgB zgC zgD zgE:Value}
  {zgF zgG:Option Addr} {zgH:Array (Option Value)} {zgI zgJ zgK zgL zgM zgN:Value}
  {zgO zgP:Option Addr} {zgQ:Array (Option Value)} {zgR zgS zgT zgU zgV zgW:Value}
  {zgX zgY:Option Addr} {zgZ:Array (Option Value)} {zha zhb zhc zhd zhe zhf:Value}
  {zhg zhh:Option Addr} {zhi:Array (Option Value)} {zhj zhk zhl zhm zhn zho:Value}
  {zhp zhq:Option Addr} {zhr:Array (Option Value)} {zhs zht zhu zhv zhw zhx:Value}
  {zhy zhz:Option Addr} {zhA:Array (Option Value)} {zhB zhC zhD zhE zhF zhG:Value}
  {zhH zhI:Option Addr} {zhJ:Array (Option Value)} {zhK zhL zhM zhN zhO zhP:Value}
  {zhQ zhR:Option Addr} {zhS:Array (Option Value)} {zhT zhU zhV zhW zhX zhY:Value}
  {zhZ zia:Option Addr} {zib:Array (Option Value)} {zic zid zie zif zig zih:Value}
  {zii zij:Option Addr} {zik:Array (Option Value)} {zil zim zin zio ziq zir:Value}
  {zis zit:Option Addr} {ziu:Array (Option Value)} {ziv ziw zix ziy ziz ziA:Value}
  {ziB ziC:Option Addr} {ziD:Array (Option Value)} {ziE ziF ziG ziH ziI ziJ:Value}
  {ziK ziL ziM ziN ziO ziP ziQ ziR ziS ziT:Tok}
  {ziU:Obj} {ziV:Obj} {ziW:Obj} {ziX:Obj}
  (ziY:PySem.W.nsIn K mainGlobals "PactError" = some (some (.ref zW)))
  (ziZ:PySem.W.nsIn K mainGlobals "NoText" = some (some (.ref zX)))
  (zja:PySem.W.nsIn K mainGlobals "NoName" = some (some (.ref zY)))
  (zjb:PySem.W.nsIn K mainGlobals "CalmRoom" = some (some (.ref zZ)))
  (zjc:PySem.W.nsIn K mainGlobals "NoDeed" = some (some (.ref zaa)))
  (zjd:PySem.W.nsIn K mainGlobals "TooMany" = some (some (.ref zab)))
  (zje:PySem.W.nsIn K mainGlobals "Breach" = some (some (.ref zac)))
  (zjf:PySem.W.nsIn K mainGlobals "NoStand" = some (some (.ref zad)))
  (zjg:PySem.W.nsIn K mainGlobals "NoPair" = some (some (.ref zae)))
  (zjh:PySem.W.nsIn K mainGlobals "NoChange" = some (some (.ref zaf)))
  (zji:PySem.W.nsIn K mainGlobals "NoRow" = some (some (.ref zag)))
  (zjj:PySem.W.nsIn K mainGlobals "Row" = some (some (.ref zah)))
  (zjk:PySem.W.nsIn K mainGlobals "Clause" = some (some (.ref zai)))
  (zjl:PySem.W.nsIn K mainGlobals "Duty" = some (some (.ref zaj)))
  (zjm:PySem.W.nsIn K mainGlobals "Leave" = some (some (.ref zak)))
  (zjn:PySem.W.nsIn K mainGlobals "Ban" = some (some (.ref zal)))
  (zjo:PySem.W.nsIn K mainGlobals "Power" = some (some (.ref zam)))
  (zjp:PySem.W.nsIn K mainGlobals "Let" = some (some (.ref zan)))
  (zjq:PySem.W.nsIn K mainGlobals "Part" = some (some (.ref zao)))
  (zjr:PySem.W.nsIn K mainGlobals "Pact" = some (some (.ref zap)))
  (zjs:PySem.W.nsIn K mainGlobals "Body" = some (some (.ref zaq)))
  (zjt:PySem.W.nsIn K mainGlobals "KEPT" = some (some (.ref zar)))
  (zju:PySem.W.nsIn K mainGlobals "LETTERS" = some (some (.str "abcdefghijklmnopqrstuvwxyz" ziK)))
  (zjv:PySem.W.nsIn K mainGlobals "FIGURES" = some (some (.str "0123456789" ziL)))
  (zjw:PySem.W.nsIn K mainGlobals "MOST_LETTERS" = some (some (.int 8 ziM)))
  (zjx:PySem.W.nsIn K mainGlobals "MOST_FIGURES" = some (some (.int 20 ziN)))
  (zjy:PySem.W.nsIn K mainGlobals "MARKS" = some (some (.ref zas)))
  (zjz:PySem.W.nsIn K mainGlobals "MOST_ROOMS" = some (some (.int 12 ziO)))
  (zjA:PySem.W.nsIn K mainGlobals "MOST_PARTIES" = some (some (.int 4 ziP)))
  (zjB:PySem.W.nsIn K mainGlobals "MOST_ACTS" = some (some (.int 6 ziQ)))
  (zjC:PySem.W.nsIn K mainGlobals "MOST_ROWS" = some (some (.int 90 ziR)))
  (zjD:PySem.W.nsIn K mainGlobals "MOST_OPEN" = some (some (.int 6 ziS)))
  (zjE:PySem.W.nsIn K mainGlobals "FIRST_ROOM" = some (some (.int 2 ziT)))
  (zjF:PySem.W.findIn K (.ref zX) "__init__" = some (some (.ref za)))
  (zjG:K.lookup za=some ⟨zaw,zat,.func (PySem.W.fnOf "__init__" "NoText.__init__" (qg jM) (qy jM) (z7 jM) .none zax zay zaz zau zaA zaB),zav⟩)
  (zjH:PySem.W.codeIn K zaA "NoText.__init__" = true)
  (zjI:PySem.W.keepIn K (.ref za)=true)
  (zjJ:PySem.W.findIn K (.ref zai) "__init__" = some (some (.ref zb)))
  (zjK:K.lookup zb=some ⟨zaF,zaC,.func (PySem.W.fnOf "__init__" "Clause.__init__" (qg jF) (qy jF) (z7 jF) .none zaG zaH zaI zaD zaJ zaK),zaE⟩)
  (zjL:PySem.W.codeIn K zaJ "Clause.__init__" = true)
  (zjM:PySem.W.keepIn K (.ref zb)=true)
  (zjN:PySem.W.findIn K (.ref zai) "number" = some (some (.ref zc)))
  (zjO:K.lookup zc=some ⟨zaO,zaL,.func (PySem.W.fnOf "number" "Clause.number" (qg jK) (qy jK) (z7 jK) .none zaP zaQ zaR zaM zaS zaT),zaN⟩)
  (zjP:PySem.W.codeIn K zaS "Clause.number" = true)
  (zjQ:PySem.W.keepIn K (.ref zc)=true)
  (zjR:PySem.W.findIn K (.ref zaj) "__init__" = some (some (.ref zd)))
  (zjS:K.lookup zd=some ⟨zaX,zaU,.func (PySem.W.fnOf "__init__" "Duty.__init__" (qg xm) (qy xm) (z7 xm) .none zaY zaZ zba zaV zbb zbc),zaW⟩)
  (zjT:PySem.W.codeIn K zbb "Duty.__init__" = true)
  (zjU:PySem.W.keepIn K (.ref zd)=true)
  (zjV:PySem.W.findIn K (.ref zaj) "number" = some (some (.ref ze)))
  (zjW:K.lookup ze=some ⟨zbg,zbd,.func (PySem.W.fnOf "number" "Duty.number" (qg xq) (qy xq) (z7 xq) .none zbh zbi zbj zbe zbk zbl),zbf⟩)
  (zjX:PySem.W.codeIn K zbk "Duty.number" = true)
  (zjY:PySem.W.keepIn K (.ref ze)=true)
  (zjZ:PySem.W.findIn K (.ref zal) "__init__" = some (some (.ref zf)))
  (zka:K.lookup zf=some ⟨zbp,zbm,.func (PySem.W.fnOf "__init__" "Ban.__init__" (qg xT) (qy xT) (z7 xT) .none zbq zbr zbs zbn zbt zbu),zbo⟩)
  (zkb:PySem.W.codeIn K zbt "Ban.__init__" = true)
  (zkc:PySem.W.keepIn K (.ref zf)=true)
  (zkd:PySem.W.findIn K (.ref zam) "__init__" = some (some (.ref zg)))
  (zke:K.lookup zg=some ⟨zby,zbv,.func (PySem.W.fnOf "__init__" "Power.__init__" (qg j8) (qy j8) (z7 j8) .none zbz zbA zbB zbw zbC zbD),zbx⟩)
  (zkf:PySem.W.codeIn K zbC "Power.__init__" = true)
  (zkg:PySem.W.keepIn K (.ref zg)=true)
  (zkh:PySem.W.findIn K (.ref zan) "__init__" = some (some (.ref zh)))
  (zki:K.lookup zh=some ⟨zbH,zbE,.func (PySem.W.fnOf "__init__" "Let.__init__" (qg xI) (qy xI) (z7 xI) .none zbI zbJ zbK zbF zbL zbM),zbG⟩)
  (zkj:PySem.W.codeIn K zbL "Let.__init__" = true)
  (zkk:PySem.W.keepIn K (.ref zh)=true)
  (zkl:PySem.W.findIn K (.ref zao) "__init__" = some (some (.ref zi)))
  (zkm:K.lookup zi=some ⟨zbQ,zbN,.func (PySem.W.fnOf "__init__" "Part.__init__" (qg xr) (qy xr) (z7 xr) .none zbR zbS zbT zbO zbU zbV),zbP⟩)
  (zkn:PySem.W.codeIn K zbU "Part.__init__" = true)
  (zko:PySem.W.keepIn K (.ref zi)=true)
  (zkp:PySem.W.findIn K (.ref zap) "__init__" = some (some (.ref zj)))
  (zkq:K.lookup zj=some ⟨zbZ,zbW,.func (PySem.W.fnOf "__init__" "Pact.__init__" (qg xu) (qy xu) (z7 xu) .none zca zcb zcc zbX zcd zce),zbY⟩)
  (zkr:PySem.W.codeIn K zcd "Pact.__init__" = true)
  (zks:PySem.W.keepIn K (.ref zj)=true)
  (zkt:PySem.W.nsIn K mainGlobals "is_name" = some (some (.ref zk)))
  (zku:K.lookup zk=some ⟨zci,zcf,.func (PySem.W.fnOf "is_name" "is_name" (qg xl) (qy xl) (z7 xl) .none zcj zck zcl zcg zcm zcn),zch⟩)
  (zkv:PySem.W.codeIn K zcm "is_name" = true)
  (zkw:PySem.W.keepIn K (.ref zk)=true)
  (zkx:PySem.W.nsIn K mainGlobals "number_of" = some (some (.ref zl)))
  (zky:K.lookup zl=some ⟨zcr,zco,.func (PySem.W.fnOf "number_of" "number_of" (qg jC) (qy jC) (z7 jC) .none zcs zct zcu zcp zcv zcw),zcq⟩)
  (zkz:PySem.W.codeIn K zcv "number_of" = true)
  (zkA:PySem.W.keepIn K (.ref zl)=true)
  (zkB:PySem.W.nsIn K mainGlobals "written_with" = some (some (.ref zm)))
  (zkC:K.lookup zm=some ⟨zcA,zcx,.func (PySem.W.fnOf "written_with" "written_with" (qg qA) (qy qA) (z7 qA) .none zcB zcC zcD zcy zcE zcF),zcz⟩)
  (zkD:PySem.W.codeIn K zcE "written_with" = true)
  (zkE:PySem.W.keepIn K (.ref zm)=true)
  (zkF:PySem.W.nsIn K mainGlobals "names_of" = some (some (.ref zn)))
  (zkG:K.lookup zn=some ⟨zcJ,zcG,.func (PySem.W.fnOf "names_of" "names_of" (qg j9) (qy j9) (z7 j9) .none zcK zcL zcM zcH zcN zcO),zcI⟩)
  (zkH:PySem.W.codeIn K zcN "names_of" = true)
  (zkI:PySem.W.keepIn K (.ref zn)=true)
  (zkJ:PySem.W.nsIn K mainGlobals "are_names" = some (some (.ref zo)))
  (zkK:K.lookup zo=some ⟨zcS,zcP,.func (PySem.W.fnOf "are_names" "are_names" (qg jt) (qy jt) (z7 jt) .none zcT zcU zcV zcQ zcW zcX),zcR⟩)
  (zkL:PySem.W.codeIn K zcW "are_names" = true)
  (zkM:PySem.W.keepIn K (.ref zo)=true)
  (zkN:PySem.W.nsIn K mainGlobals "room_of" = some (some (.ref zp)))
  (zkO:K.lookup zp=some ⟨zdb,zcY,.func (PySem.W.fnOf "room_of" "room_of" (qg xn) (qy xn) (z7 xn) .none zdc zdd zde zcZ zdf zdg),zda⟩)
  (zkP:PySem.W.codeIn K zdf "room_of" = true)
  (zkQ:PySem.W.keepIn K (.ref zp)=true)
  (zkR:PySem.W.nsIn K mainGlobals "let_of" = some (some (.ref zq)))
  (zkS:K.lookup zq=some ⟨zdk,zdh,.func (PySem.W.fnOf "let_of" "let_of" (qg xE) (qy xE) (z7 xE) .none zdl zdm zdn zdi zdo zdp),zdj⟩)
  (zkT:PySem.W.codeIn K zdo "let_of" = true)
  (zkU:PySem.W.keepIn K (.ref zq)=true)
  (zkV:PySem.W.nsIn K mainGlobals "part_of" = some (some (.ref zr)))
  (zkW:K.lookup zr=some ⟨zdt,zdq,.func (PySem.W.fnOf "part_of" "part_of" (qg xt) (qy xt) (z7 xt) .none zdu zdv zdw zdr zdx zdy),zds⟩)
  (zkX:PySem.W.codeIn K zdx "part_of" = true)
  (zkY:PySem.W.keepIn K (.ref zr)=true)
  (zkZ:PySem.W.nsIn K mainGlobals "clause_of" = some (some (.ref zs)))
  (zla:K.lookup zs=some ⟨zdC,zdz,.func (PySem.W.fnOf "clause_of" "clause_of" (qg jD) (qy jD) (z7 jD) .none zdD zdE zdF zdA zdG zdH),zdB⟩)
  (zlb:PySem.W.codeIn K zdG "clause_of" = true)
  (zlc:PySem.W.keepIn K (.ref zs)=true)
  (zld:PySem.W.nsIn K mainGlobals "fits_form" = some (some (.ref zt)))
  (zle:K.lookup zt=some ⟨zdL,zdI,.func (PySem.W.fnOf "fits_form" "fits_form" (qg jn) (qy jn) (z7 jn) .none zdM zdN zdO zdJ zdP zdQ),zdK⟩)
  (zlf:PySem.W.codeIn K zdP "fits_form" = true)
  (zlg:PySem.W.keepIn K (.ref zt)=true)
  (zlh:PySem.W.nsIn K mainGlobals "fits_place" = some (some (.ref zu)))
  (zli:K.lookup zu=some ⟨zdU,zdR,.func (PySem.W.fnOf "fits_place" "fits_place" (qg ja) (qy ja) (z7 ja) .none zdV zdW zdX zdS zdY zdZ),zdT⟩)
  (zlj:PySem.W.codeIn K zdY "fits_place" = true)
  (zlk:PySem.W.keepIn K (.ref zu)=true)
  (zll:PySem.W.nsIn K mainGlobals "read" = some (some (.ref zv)))
  (zlm:K.lookup zv=some ⟨zed,zea,.func (PySem.W.fnOf "read" "read" (qg vH) (qy vH) (z7 vH) .none zee zef zeg zeb zeh zei),zec⟩)
  (zln:PySem.W.codeIn K zeh "read" = true)
  (zlo:PySem.W.keepIn K (.ref zv)=true)
  (zlp:PySem.W.nsIn K mainGlobals "read_names" = some (some (.ref zw)))
  (zlq:K.lookup zw=some ⟨zem,zej,.func (PySem.W.fnOf "read_names" "read_names" (qg jZ) (qy jZ) (z7 jZ) .none zen zeo zep zek zeq zer),zel⟩)
  (zlr:PySem.W.codeIn K zeq "read_names" = true)
  (zls:PySem.W.keepIn K (.ref zw)=true)
  (zlt:PySem.W.nsIn K mainGlobals "told_once" = some (some (.ref zx)))
  (zlu:K.lookup zx=some ⟨zev,zes,.func (PySem.W.fnOf "told_once" "told_once" (qg jU) (qy jU) (z7 jU) .none zew zex zey zet zez zeA),zeu⟩)
  (zlv:PySem.W.codeIn K zez "told_once" = true)
  (zlw:PySem.W.keepIn K (.ref zx)=true)
  (zlx:PySem.W.nsIn K mainGlobals "read_rooms" = some (some (.ref zy)))
  (zly:K.lookup zy=some ⟨zeE,zeB,.func (PySem.W.fnOf "read_rooms" "read_rooms" (qg jc) (qy jc) (z7 jc) .none zeF zeG zeH zeC zeI zeJ),zeD⟩)
  (zlz:PySem.W.codeIn K zeI "read_rooms" = true)
  (zlA:PySem.W.keepIn K (.ref zy)=true)
  (zlB:PySem.W.nsIn K mainGlobals "read_whole" = some (some (.ref zz)))
  (zlC:K.lookup zz=some ⟨zeN,zeK,.func (PySem.W.fnOf "read_whole" "read_whole" (qg jQ) (qy jQ) (z7 jQ) .none zeO zeP zeQ zeL zeR zeS),zeM⟩)
  (zlD:PySem.W.codeIn K zeR "read_whole" = true)
  (zlE:PySem.W.keepIn K (.ref zz)=true)
  (zlF:PySem.W.findIn K (.ref zaq) "__init__" = some (some (.ref zA)))
  (zlG:K.lookup zA=some ⟨zeW,zeT,.func (PySem.W.fnOf "__init__" "Body.__init__" (qg xf) (qy xf) (z7 xf) .none zeX zeY zeZ zeU zfa zfb),zeV⟩)
  (zlH:PySem.W.codeIn K zfa "Body.__init__" = true)
  (zlI:PySem.W.keepIn K (.ref zA)=true)
  (zlJ:PySem.W.findIn K (.ref zaq) "many_open" = some (some (.ref zB)))
  (zlK:K.lookup zB=some ⟨zff,zfc,.func (PySem.W.fnOf "many_open" "Body.many_open" (qg jh) (qy jh) (z7 jh) .none zfg zfh zfi zfd zfj zfk),zfe⟩)
  (zlL:PySem.W.codeIn K zfj "Body.many_open" = true)
  (zlM:PySem.W.keepIn K (.ref zB)=true)
  (zlN:PySem.W.findIn K (.ref zaq) "takes" = some (some (.ref zC)))
  (zlO:K.lookup zC=some ⟨zfo,zfl,.func (PySem.W.fnOf "takes" "Body.takes" (qg j7) (qy j7) (z7 j7) .none zfp zfq zfr zfm zfs zft),zfn⟩)
  (zlP:PySem.W.codeIn K zfs "Body.takes" = true)
  (zlQ:PySem.W.keepIn K (.ref zC)=true)
  (zlR:PySem.W.findIn K (.ref zaq) "takes_done" = some (some (.ref zD)))
  (zlS:K.lookup zD=some ⟨zfx,zfu,.func (PySem.W.fnOf "takes_done" "Body.takes_done" (qg q9) (qy q9) (z7 q9) .none zfy zfz zfA zfv zfB zfC),zfw⟩)
  (zlT:PySem.W.codeIn K zfB "Body.takes_done" = true)
  (zlU:PySem.W.keepIn K (.ref zD)=true)
  (zlV:PySem.W.findIn K (.ref zaq) "takes_head" = some (some (.ref zE)))
  (zlW:K.lookup zE=some ⟨zfG,zfD,.func (PySem.W.fnOf "takes_head" "Body.takes_head" (qg jz) (qy jz) (z7 jz) .none zfH zfI zfJ zfE zfK zfL),zfF⟩)
  (zlX:PySem.W.codeIn K zfK "Body.takes_head" = true)
  (zlY:PySem.W.keepIn K (.ref zE)=true)
  (zlZ:PySem.W.findIn K (.ref zaq) "takes_clause" = some (some (.ref zF)))
  (zma:K.lookup zF=some ⟨zfP,zfM,.func (PySem.W.fnOf "takes_clause" "Body.takes_clause" (qg qL) (qy qL) (z7 qL) .none zfQ zfR zfS zfN zfT zfU),zfO⟩)
  (zmb:PySem.W.codeIn K zfT "Body.takes_clause" = true)
  (zmc:PySem.W.keepIn K (.ref zF)=true)
  (zmd:PySem.W.findIn K (.ref zaq) "put_in" = some (some (.ref zG)))
  (zme:K.lookup zG=some ⟨zfY,zfV,.func (PySem.W.fnOf "put_in" "Body.put_in" (qg jP) (qy jP) (z7 jP) .none zfZ zga zgb zfW zgc zgd),zfX⟩)
  (zmf:PySem.W.codeIn K zgc "Body.put_in" = true)
  (zmg:PySem.W.keepIn K (.ref zG)=true)
  (zmh:PySem.W.findIn K (.ref zaq) "closed" = some (some (.ref zH)))
  (zmi:K.lookup zH=some ⟨zgh,zge,.func (PySem.W.fnOf "closed" "Body.closed" (qg jB) (qy jB) (z7 jB) .none zgi zgj zgk zgf zgl zgm),zgg⟩)
  (zmj:PySem.W.codeIn K zgl "Body.closed" = true)
  (zmk:PySem.W.keepIn K (.ref zH)=true)
  (zml:PySem.W.nsIn K mainGlobals "_law_cell_at" = some (some (.ref zI)))
  (zmm:K.lookup zI=some ⟨zgq,zgn,.func (PySem.W.fnOf "_law_cell_at" "_law_cell_at" (qg xo) (qy xo) (z7 xo) .none zgr zgs zgt zgo zgu zgv),zgp⟩)
  (zmn:PySem.W.codeIn K zgu "_law_cell_at" = true)
  (zmo:PySem.W.keepIn K (.ref zI)=true)
  (zmp:PySem.W.nsIn K mainGlobals "_law_mix" = some (some (.ref zJ)))
  (zmq:K.lookup zJ=some ⟨zgz,zgw,.func (PySem.W.fnOf "_law_mix" "_law_mix" (qg yb) (qy yb) (z7 yb) .none zgA zgB zgC zgx zgD zgE),zgy⟩)
  (zmr:PySem.W.codeIn K zgD "_law_mix" = true)
  (zms:PySem.W.keepIn K (.ref zJ)=true)
  (zmt:PySem.W.nsIn K mainGlobals "_law_name" = some (some (.ref zK)))
  (zmu:K.lookup zK=some ⟨zgI,zgF,.func (PySem.W.fnOf "_law_name" "_law_name" (qg vB) (qy vB) (z7 vB) .none zgJ zgK zgL zgG zgM zgN),zgH⟩)
  (zmv:PySem.W.codeIn K zgM "_law_name" = true)
  (zmw:PySem.W.keepIn K (.ref zK)=true)
  (zmx:PySem.W.nsIn K mainGlobals "_law_event" = some (some (.ref zL)))
  (zmy:K.lookup zL=some ⟨zgR,zgO,.func (PySem.W.fnOf "_law_event" "_law_event" (qg xG) (qy xG) (z7 xG) .none zgS zgT zgU zgP zgV zgW),zgQ⟩)
  (zmz:PySem.W.codeIn K zgV "_law_event" = true)
  (zmA:PySem.W.keepIn K (.ref zL)=true)
  (zmB:PySem.W.nsIn K mainGlobals "_law_events" = some (some (.ref zM)))
  (zmC:K.lookup zM=some ⟨zha,zgX,.func (PySem.W.fnOf "_law_events" "_law_events" (qg xA) (qy xA) (z7 xA) .none zhb zhc zhd zgY zhe zhf),zgZ⟩)
  (zmD:PySem.W.codeIn K zhe "_law_events" = true)
  (zmE:PySem.W.keepIn K (.ref zM)=true)
  (zmF:PySem.W.nsIn K mainGlobals "_law_header" = some (some (.ref zN)))
  (zmG:K.lookup zN=some ⟨zhj,zhg,.func (PySem.W.fnOf "_law_header" "_law_header" (qg x4) (qy x4) (z7 x4) .none zhk zhl zhm zhh zhn zho),zhi⟩)
  (zmH:PySem.W.codeIn K zhn "_law_header" = true)
  (zmI:PySem.W.keepIn K (.ref zN)=true)
  (zmJ:PySem.W.nsIn K mainGlobals "_law_row" = some (some (.ref zO)))
  (zmK:K.lookup zO=some ⟨zhs,zhp,.func (PySem.W.fnOf "_law_row" "_law_row" (qg yp) (qy yp) (z7 yp) .none zht zhu zhv zhq zhw zhx),zhr⟩)
  (zmL:PySem.W.codeIn K zhw "_law_row" = true)
  (zmM:PySem.W.keepIn K (.ref zO)=true)
  (zmN:PySem.W.nsIn K mainGlobals "_law_rows" = some (some (.ref zP)))
  (zmO:K.lookup zP=some ⟨zhB,zhy,.func (PySem.W.fnOf "_law_rows" "_law_rows" (qg kU) (qy kU) (z7 kU) .none zhC zhD zhE zhz zhF zhG),zhA⟩)
  (zmP:PySem.W.codeIn K zhF "_law_rows" = true)
  (zmQ:PySem.W.keepIn K (.ref zP)=true)
  (zmR:PySem.W.nsIn K mainGlobals "_law_no_text" = some (some (.ref zQ)))
  (zmS:K.lookup zQ=some ⟨zhK,zhH,.func (PySem.W.fnOf "_law_no_text" "_law_no_text" (qg xi) (qy xi) (z7 xi) .none zhL zhM zhN zhI zhO zhP),zhJ⟩)
  (zmT:PySem.W.codeIn K zhO "_law_no_text" = true)
  (zmU:PySem.W.keepIn K (.ref zQ)=true)
  (zmV:PySem.W.nsIn K mainGlobals "_law_refused_at" = some (some (.ref zR)))
  (zmW:K.lookup zR=some ⟨zhT,zhQ,.func (PySem.W.fnOf "_law_refused_at" "_law_refused_at" (qg jJ) (qy jJ) (z7 jJ) .none zhU zhV zhW zhR zhX zhY),zhS⟩)
  (zmX:PySem.W.codeIn K zhX "_law_refused_at" = true)
  (zmY:PySem.W.keepIn K (.ref zR)=true)
  (zmZ:PySem.W.nsIn K mainGlobals "_law_odd_row" = some (some (.ref zS)))
  (zna:K.lookup zS=some ⟨zic,zhZ,.func (PySem.W.fnOf "_law_odd_row" "_law_odd_row" (qg xa) (qy xa) (z7 xa) .none zid zie zif zia zig zih),zib⟩)
  (znb:PySem.W.codeIn K zig "_law_odd_row" = true)
  (znc:PySem.W.keepIn K (.ref zS)=true)
  (znd:PySem.W.nsIn K mainGlobals "_law_open_at" = some (some (.ref zT)))
  (zne:K.lookup zT=some ⟨zil,zii,.func (PySem.W.fnOf "_law_open_at" "_law_open_at" (qg xZ) (qy xZ) (z7 xZ) .none zim zin zio zij ziq zir),zik⟩)
  (znf:PySem.W.codeIn K ziq "_law_open_at" = true)
  (zng:PySem.W.keepIn K (.ref zT)=true)
  (znh:PySem.W.nsIn K mainGlobals "_law_spoilt_at" = some (some (.ref zU)))
  (zni:K.lookup zU=some ⟨ziv,zis,.func (PySem.W.fnOf "_law_spoilt_at" "_law_spoilt_at" (qg jR) (qy jR) (z7 jR) .none ziw zix ziy zit ziz ziA),ziu⟩)
  (znj:PySem.W.codeIn K ziz "_law_spoilt_at" = true)
  (znk:PySem.W.keepIn K (.ref zU)=true)
  (znl:PySem.W.nsIn K mainGlobals "law" = some (some (.ref zV)))
  (znm:K.lookup zV=some ⟨ziE,ziB,.func (PySem.W.fnOf "law" "law" (qg wm) (qy wm) (z7 wm) .none ziF ziG ziH ziC ziI ziJ),ziD⟩)
  (znn:PySem.W.codeIn K ziI "law" = true)
  (zno:PySem.W.keepIn K (.ref zV)=true)
  (znp:PySem.W.nsIn K mainGlobals "list" = some none)
  (znq:PySem.W.nsIn K mainGlobals "len" = some none)
  (znr:PySem.W.nsIn K mainGlobals "range" = some none)
  (zns:PySem.W.nsIn K mainGlobals "all" = some none)
  (znt:PySem.W.nsIn K mainGlobals "int" = some none)
  (znu:PySem.W.nsIn K mainGlobals "str" = some none)
  (znv:PySem.W.nsIn K mainGlobals "isinstance" = some none)
  (znw:PySem.W.nsIn K mainGlobals "bool" = some none)
  (znx:PySem.W.nsIn K mainGlobals "zip" = some none)
  (zny:PySem.W.nsIn K mainGlobals "ValueError" = some none)
  (znz:PySem.W.nsIn K mainGlobals "set" = some none)
  (znA:K.lookup zar=some ziU)
  (znB:∃(its:Array Value) (n:Nat),ziU.cls=.type "tuple"∧ziU.data=.seq its n∧its.size≤sizeLine∧Vals (gh.map V.str) its.toList)
  (znC:K.lookup zas=some ziV)
  (znD:∃(its:Array Value) (n:Nat),ziV.cls=.type "tuple"∧ziV.data=.seq its n∧its.size≤sizeLine∧Vals (jT.map V.str) its.toList)
  (znE:PySem.W.plainGet K zai Str.empty=true)
  (znF:PySem.W.hasDictIn K zai=true)
  (znG:PySem.W.plainOver K zai=true)
  (znH:PySem.W.findIn K (.ref zai) "__setattr__" = some (some (.builtin "object.__setattr__")))
  (znI:PySem.W.findIn K (.ref zai) "act" = some none)
  (znJ:PySem.W.findIn K (.ref zai) "label" = some none)
  (znK:PySem.W.findIn K (.ref zai) "room" = some none)
  (znL:PySem.W.findIn K (.ref zai) "turns" = some none)
  (znM:PySem.W.findIn K (.ref zai) "who" = some none)
  (znN:PySem.W.makesIn K zai=true)
  (znO:PySem.W.findIn K (.ref zai) "__init__" = some (some (.ref zb)))
  (znP:PySem.W.isFn K (.ref zb)=true)
  (znQ:PySem.W.keepIn K (.ref zai)=true)
  (znR:PySem.W.plainGet K zaj Str.empty=true)
  (znS:PySem.W.hasDictIn K zaj=true)
  (znT:PySem.W.plainOver K zaj=true)
  (znU:PySem.W.findIn K (.ref zaj) "__setattr__" = some (some (.builtin "object.__setattr__")))
  (znV:PySem.W.findIn K (.ref zaj) "act" = some none)
  (znW:PySem.W.findIn K (.ref zaj) "label" = some none)
  (znX:PySem.W.findIn K (.ref zaj) "room" = some none)
  (znY:PySem.W.findIn K (.ref zaj) "turns" = some none)
  (znZ:PySem.W.findIn K (.ref zaj) "who" = some none)
  (zoa:PySem.W.makesIn K zaj=true)
  (zob:PySem.W.findIn K (.ref zaj) "__init__" = some (some (.ref zd)))
  (zoc:PySem.W.isFn K (.ref zd)=true)
  (zod:PySem.W.keepIn K (.ref zaj)=true)
  (zoe:PySem.W.plainGet K zak Str.empty=true)
  (zof:PySem.W.hasDictIn K zak=true)
  (zog:PySem.W.plainOver K zak=true)
  (zoh:PySem.W.findIn K (.ref zak) "__setattr__" = some (some (.builtin "object.__setattr__")))
  (zoi:PySem.W.findIn K (.ref zak) "act" = some none)
  (zoj:PySem.W.findIn K (.ref zak) "label" = some none)
  (zok:PySem.W.findIn K (.ref zak) "room" = some none)
  (zol:PySem.W.findIn K (.ref zak) "turns" = some none)
  (zom:PySem.W.findIn K (.ref zak) "who" = some none)
  (zon:PySem.W.makesIn K zak=true)
  (zoo:PySem.W.findIn K (.ref zak) "__init__" = some (some (.ref zb)))
  (zop:PySem.W.isFn K (.ref zb)=true)
  (zoq:PySem.W.keepIn K (.ref zak)=true)
  (zor:PySem.W.plainGet K zal Str.empty=true)
  (zos:PySem.W.hasDictIn K zal=true)
  (zot:PySem.W.plainOver K zal=true)
  (zou:PySem.W.findIn K (.ref zal) "__setattr__" = some (some (.builtin "object.__setattr__")))
  (zov:PySem.W.findIn K (.ref zal) "act" = some none)
  (zow:PySem.W.findIn K (.ref zal) "label" = some none)
  (zox:PySem.W.findIn K (.ref zal) "room" = some none)
  (zoy:PySem.W.findIn K (.ref zal) "turns" = some none)
  (zoz:PySem.W.findIn K (.ref zal) "who" = some none)
  (zoA:PySem.W.makesIn K zal=true)
  (zoB:PySem.W.findIn K (.ref zal) "__init__" = some (some (.ref zf)))
  (zoC:PySem.W.isFn K (.ref zf)=true)
  (zoD:PySem.W.keepIn K (.ref zal)=true)
  (zoE:PySem.W.plainGet K zam Str.empty=true)
  (zoF:PySem.W.hasDictIn K zam=true)
  (zoG:PySem.W.plainOver K zam=true)
  (zoH:PySem.W.findIn K (.ref zam) "__setattr__" = some (some (.builtin "object.__setattr__")))
  (zoI:PySem.W.findIn K (.ref zam) "act" = some none)
  (zoJ:PySem.W.findIn K (.ref zam) "label" = some none)
  (zoK:PySem.W.findIn K (.ref zam) "room" = some none)
  (zoL:PySem.W.findIn K (.ref zam) "turns" = some none)
  (zoM:PySem.W.findIn K (.ref zam) "who" = some none)
  (zoN:PySem.W.makesIn K zam=true)
  (zoO:PySem.W.findIn K (.ref zam) "__init__" = some (some (.ref zg)))
  (zoP:PySem.W.isFn K (.ref zg)=true)
  (zoQ:PySem.W.keepIn K (.ref zam)=true)
  (zoR:PySem.W.plainGet K zan Str.empty=true)
  (zoS:PySem.W.hasDictIn K zan=true)
  (zoT:PySem.W.plainOver K zan=true)
  (zoU:PySem.W.findIn K (.ref zan) "__setattr__" = some (some (.builtin "object.__setattr__")))
  (zoV:PySem.W.findIn K (.ref zan) "name" = some none)
  (zoW:PySem.W.findIn K (.ref zan) "value" = some none)
  (zoX:PySem.W.makesIn K zan=true)
  (zoY:PySem.W.findIn K (.ref zan) "__init__" = some (some (.ref zh)))
  (zoZ:PySem.W.isFn K (.ref zh)=true)
  (zpa:PySem.W.keepIn K (.ref zan)=true)
  (zpb:PySem.W.plainGet K zao Str.empty=true)
  (zpc:PySem.W.hasDictIn K zao=true)
  (zpd:PySem.W.plainOver K zao=true)
  (zpe:PySem.W.findIn K (.ref zao) "__setattr__" = some (some (.builtin "object.__setattr__")))
  (zpf:PySem.W.findIn K (.ref zao) "name" = some none)
  (zpg:PySem.W.findIn K (.ref zao) "rooms" = some none)
  (zph:PySem.W.findIn K (.ref zao) "rows" = some none)
  (zpi:PySem.W.makesIn K zao=true)
  (zpj:PySem.W.findIn K (.ref zao) "__init__" = some (some (.ref zi)))
  (zpk:PySem.W.isFn K (.ref zi)=true)
  (zpl:PySem.W.keepIn K (.ref zao)=true)
  (zpm:PySem.W.plainGet K zap Str.empty=true)
  (zpn:PySem.W.hasDictIn K zap=true)
  (zpo:PySem.W.plainOver K zap=true)
  (zpp:PySem.W.findIn K (.ref zap) "__setattr__" = some (some (.builtin "object.__setattr__")))
  (zpq:PySem.W.findIn K (.ref zap) "acts" = some none)
  (zpr:PySem.W.findIn K (.ref zap) "parties" = some none)
  (zps:PySem.W.findIn K (.ref zap) "rooms" = some none)
  (zpt:PySem.W.findIn K (.ref zap) "whole" = some none)
  (zpu:PySem.W.makesIn K zap=true)
  (zpv:PySem.W.findIn K (.ref zap) "__init__" = some (some (.ref zj)))
  (zpw:PySem.W.isFn K (.ref zj)=true)
  (zpx:PySem.W.keepIn K (.ref zap)=true)
  (zpy:PySem.W.plainGet K zaq Str.empty=true)
  (zpz:PySem.W.hasDictIn K zaq=true)
  (zpA:PySem.W.plainOver K zaq=true)
  (zpB:PySem.W.findIn K (.ref zaq) "__setattr__" = some (some (.builtin "object.__setattr__")))
  (zpC:PySem.W.findIn K (.ref zaq) "bodies" = some none)
  (zpD:PySem.W.findIn K (.ref zaq) "heads" = some none)
  (zpE:PySem.W.findIn K (.ref zaq) "labels" = some none)
  (zpF:PySem.W.makesIn K zaq=true)
  (zpG:PySem.W.findIn K (.ref zaq) "__init__" = some (some (.ref zA)))
  (zpH:PySem.W.isFn K (.ref zA)=true)
  (zpI:PySem.W.keepIn K (.ref zaq)=true)
  (zpJ:PySem.W.findIn K (.ref zaq) "many_open" = some (some (.ref zB)))
  (zpK:PySem.W.isFn K (.ref zB)=true)
  (zpL:PySem.W.findIn K (.ref zaq) "takes" = some (some (.ref zC)))
  (zpM:PySem.W.isFn K (.ref zC)=true)
  (zpN:PySem.W.findIn K (.ref zaq) "takes_done" = some (some (.ref zD)))
  (zpO:PySem.W.isFn K (.ref zD)=true)
  (zpP:PySem.W.findIn K (.ref zaq) "takes_head" = some (some (.ref zE)))
  (zpQ:PySem.W.isFn K (.ref zE)=true)
  (zpR:PySem.W.findIn K (.ref zaq) "takes_clause" = some (some (.ref zF)))
  (zpS:PySem.W.isFn K (.ref zF)=true)
  (zpT:PySem.W.findIn K (.ref zaq) "put_in" = some (some (.ref zG)))
  (zpU:PySem.W.isFn K (.ref zG)=true)
  (zpV:PySem.W.findIn K (.ref zaq) "closed" = some (some (.ref zH)))
  (zpW:PySem.W.isFn K (.ref zH)=true)
  (zpX:K.lookup zW=some ziW)
  (zpY:Yh zW ziW=true)
  (zpZ:K.lookup zX=some ziX)
  (zqa:Yh zX ziX=true)
  (zqb:PySem.W.findIn K (.ref zX) "__setattr__" = some (some (.builtin "object.__setattr__")))
  (zqc:PySem.W.findIn K (.ref zX) "__getattribute__" = some (some (.builtin "BaseException.__getattribute__")))
  (zqd:PySem.W.findIn K (.ref zX) "__getattr__" = some none)
  (zqe:PySem.W.mroIn K zX (.type "BaseException")=some true)
  (zqf:PySem.W.hasDictIn K zX=true)
  (zqg:PySem.W.findIn K (.ref zX) "__class__" = some (some (.builtin "object.__class__")))
  (zqh:PySem.W.specialIn K (.builtin "object.__class__") "__get__" = some (some (.builtin "getset_descriptor.__get__")))
  (zqi:PySem.W.takesIn K (.builtin "object.__class__")=some true)
  (zqj:PySem.W.mroIn K zX (.type "object")=some true)
  (zqk:PySem.W.findIn K (.ref zX) "__init__" = some (some (.ref za)))
  (zql:PySem.W.isFn K (.ref za)=true)
  (zqm:PySem.W.keepIn K (.ref zX)=true)
  (zqn:PySem.W.findIn K (.ref zX) "row" = some none)
  (zqo:PySem.W.subIn K (.ref zW) (.type "BaseException")=some true)
  (zqp:PySem.W.typeIn K (.ref zW)=some (.type "type"))
  (zqq:PySem.W.subIn K (.ref zX) (.ref zW)=some true)
  (zqr:PySem.W.specialIn K (.ref zai) "__getattribute__" = some (some (.builtin "type.__getattribute__")))
  (zqs:PySem.W.readsIn K zai (.type "type")=true)
  (zqt:PySem.W.findCls K (.ref zai) (.type "type") "__init__" = some (.val (.ref zb)))
  (zqu:PySem.W.specialIn K (.ref zak) "__getattribute__" = some (some (.builtin "type.__getattribute__")))
  (zqv:PySem.W.readsIn K zak (.type "type")=true)
  (zqw:PySem.W.findCls K (.ref zak) (.type "type") "__init__" = some (.val (.ref zb)))
  (zqx:PySem.W.kitOne K (.ref zX) (.ref zY)=some false)
  (zqy:PySem.W.kitOne K (.ref zX) (.ref zZ)=some false)
  (zqz:PySem.W.kitOne K (.ref zX) (.ref zaa)=some false)
  (zqA:PySem.W.kitOne K (.ref zX) (.ref zab)=some false)
  (zqB:PySem.W.kitOne K (.ref zX) (.ref zac)=some false)
  (zqC:PySem.W.kitOne K (.ref zX) (.ref zad)=some false)
  (zqD:PySem.W.kitOne K (.ref zX) (.ref zae)=some false)
  (zqE:PySem.W.kitOne K (.ref zX) (.ref zaf)=some false)
  (zqF:PySem.W.kitOne K (.ref zX) (.ref zag)=some false)
  (zqG:PySem.W.kitOne K (.ref zX) (.ref zX)=some true)
  (zqH:PySem.W.kitOne K (.ref zX) (.type "ValueError")=some true)
  (zqI:PySem.W.kitOne K (.type "int") (.type "bool")=some false)
  : ∃t:xj,Txt K mg t∧mg "law" = some (.ref t.md):=by
 have F_NoText_init:=qF (st:=jM) zjG zjH zjI
 have B_NoText_init:=F_NoText_init.binds (ps:=["self","row"]) fun _ _ _ _ _ _ us hl=>match us,hl with | [_,_],_=>rfl
 have F_Clause_init:=qF (st:=jF) zjK zjL zjM
 have B_Clause_init:=F_Clause_init.binds (ps:=["self","label","who","act"]) fun _ _ _ _ _ _ us hl=>match us,hl with | [_,_,_,_],_=>rfl
 have F_Clause_number:=qF (st:=jK) zjO zjP zjQ
 have B_Clause_number:=F_Clause_number.binds (ps:=["self"]) fun _ _ _ _ _ _ us hl=>match us,hl with | [_],_=>rfl
 have F_Duty_init:=qF (st:=xm) zjS zjT zjU
 have B_Duty_init:=F_Duty_init.binds (ps:=["self","label","who","act","turns","room"]) fun _ _ _ _ _ _ us hl=>match us,hl with | [_,_,_,_,_,_],_=>rfl
 have F_Duty_number:=qF (st:=xq) zjW zjX zjY
 have B_Duty_number:=F_Duty_number.binds (ps:=["self"]) fun _ _ _ _ _ _ us hl=>match us,hl with | [_],_=>rfl
 have F_Ban_init:=qF (st:=xT) zka zkb zkc
 have B_Ban_init:=F_Ban_init.binds (ps:=["self","label","who","act","room"]) fun _ _ _ _ _ _ us hl=>match us,hl with | [_,_,_,_,_],_=>rfl
 have F_Power_init:=qF (st:=j8) zke zkf zkg
 have B_Power_init:=F_Power_init.binds (ps:=["self","label","who","act","room"]) fun _ _ _ _ _ _ us hl=>match us,hl with | [_,_,_,_,_],_=>rfl
 have F_Let_init:=qF (st:=xI) zki zkj zkk
 have B_Let_init:=F_Let_init.binds (ps:=["self","name","value"]) fun _ _ _ _ _ _ us hl=>match us,hl with | [_,_,_],_=>rfl
 have F_Part_init:=qF (st:=xr) zkm zkn zko
 have B_Part_init:=F_Part_init.binds (ps:=["self","name","rooms","rows"]) fun _ _ _ _ _ _ us hl=>match us,hl with | [_,_,_,_],_=>rfl
 have F_Pact_init:=qF (st:=xu) zkq zkr zks
 have B_Pact_init:=F_Pact_init.binds (ps:=["self","parties","acts","rooms","whole"]) fun _ _ _ _ _ _ us hl=>match us,hl with | [_,_,_,_,_],_=>rfl
 have F_v_is_name:=qF (st:=xl) zku zkv zkw
 have B_v_is_name:=F_v_is_name.binds (ps:=["word"]) fun _ _ _ _ _ _ us hl=>match us,hl with | [_],_=>rfl
 have F_v_number_of:=qF (st:=jC) zky zkz zkA
 have B_v_number_of:=F_v_number_of.binds (ps:=["word"]) fun _ _ _ _ _ _ us hl=>match us,hl with | [_],_=>rfl
 have F_v_written_with:=qF (st:=qA) zkC zkD zkE
 have B_v_written_with:=F_v_written_with.binds (ps:=["word","signs","most"]) fun _ _ _ _ _ _ us hl=>match us,hl with | [_,_,_],_=>rfl
 have F_v_names_of:=qF (st:=j9) zkG zkH zkI
 have B_v_names_of:=F_v_names_of.binds (ps:=["row","word","most"]) fun _ _ _ _ _ _ us hl=>match us,hl with | [_,_,_],_=>rfl
 have F_v_are_names:=qF (st:=jt) zkK zkL zkM
 have B_v_are_names:=F_v_are_names.binds (ps:=["words","most"]) fun _ _ _ _ _ _ us hl=>match us,hl with | [_,_],_=>rfl
 have F_v_room_of:=qF (st:=xn) zkO zkP zkQ
 have B_v_room_of:=F_v_room_of.binds (ps:=["row"]) fun _ _ _ _ _ _ us hl=>match us,hl with | [_],_=>rfl
 have F_v_let_of:=qF (st:=xE) zkS zkT zkU
 have B_v_let_of:=F_v_let_of.binds (ps:=["row"]) fun _ _ _ _ _ _ us hl=>match us,hl with | [_],_=>rfl
 have F_v_part_of:=qF (st:=xt) zkW zkX zkY
 have B_v_part_of:=F_v_part_of.binds (ps:=["row"]) fun _ _ _ _ _ _ us hl=>match us,hl with | [_],_=>rfl
 have F_v_clause_of:=qF (st:=jD) zla zlb zlc
 have B_v_clause_of:=F_v_clause_of.binds (ps:=["row"]) fun _ _ _ _ _ _ us hl=>match us,hl with | [_],_=>rfl
 have F_v_fits_form:=qF (st:=jn) zle zlf zlg
 have B_v_fits_form:=F_v_fits_form.binds (ps:=["words","form"]) fun _ _ _ _ _ _ us hl=>match us,hl with | [_,_],_=>rfl
 have F_v_fits_place:=qF (st:=ja) zli zlj zlk
 have B_v_fits_place:=F_v_fits_place.binds (ps:=["word","place"]) fun _ _ _ _ _ _ us hl=>match us,hl with | [_,_],_=>rfl
 have F_v_read:=qF (st:=vH) zlm zln zlo
 have B_v_read:=F_v_read.binds (ps:=["text"]) fun _ _ _ _ _ _ us hl=>match us,hl with | [_],_=>rfl
 have F_v_read_names:=qF (st:=jZ) zlq zlr zls
 have B_v_read_names:=F_v_read_names.binds (ps:=["rows","number","word","most","taken"]) fun _ _ _ _ _ _ us hl=>match us,hl with | [_,_,_,_,_],_=>rfl
 have F_v_told_once:=qF (st:=jU) zlu zlv zlw
 have B_v_told_once:=F_v_told_once.binds (ps:=["names"]) fun _ _ _ _ _ _ us hl=>match us,hl with | [_],_=>rfl
 have F_v_read_rooms:=qF (st:=jc) zly zlz zlA
 have B_v_read_rooms:=F_v_read_rooms.binds (ps:=["rows","taken"]) fun _ _ _ _ _ _ us hl=>match us,hl with | [_,_],_=>rfl
 have F_v_read_whole:=qF (st:=jQ) zlC zlD zlE
 have B_v_read_whole:=F_v_read_whole.binds (ps:=["rows","start"]) fun _ _ _ _ _ _ us hl=>match us,hl with | [_,_],_=>rfl
 have F_Body_init:=qF (st:=xf) zlG zlH zlI
 have B_Body_init:=F_Body_init.binds (ps:=["self"]) fun _ _ _ _ _ _ us hl=>match us,hl with | [_],_=>rfl
 have F_Body_many_open:=qF (st:=jh) zlK zlL zlM
 have B_Body_many_open:=F_Body_many_open.binds (ps:=["self"]) fun _ _ _ _ _ _ us hl=>match us,hl with | [_],_=>rfl
 have F_Body_takes:=qF (st:=j7) zlO zlP zlQ
 have B_Body_takes:=F_Body_takes.binds (ps:=["self","row"]) fun _ _ _ _ _ _ us hl=>match us,hl with | [_,_],_=>rfl
 have F_Body_takes_done:=qF (st:=q9) zlS zlT zlU
 have B_Body_takes_done:=F_Body_takes_done.binds (ps:=["self"]) fun _ _ _ _ _ _ us hl=>match us,hl with | [_],_=>rfl
 have F_Body_takes_head:=qF (st:=jz) zlW zlX zlY
 have B_Body_takes_head:=F_Body_takes_head.binds (ps:=["self","head"]) fun _ _ _ _ _ _ us hl=>match us,hl with | [_,_],_=>rfl
 have F_Body_takes_clause:=qF (st:=qL) zma zmb zmc
 have B_Body_takes_clause:=F_Body_takes_clause.binds (ps:=["self","clause"]) fun _ _ _ _ _ _ us hl=>match us,hl with | [_,_],_=>rfl
 have F_Body_put_in:=qF (st:=jP) zme zmf zmg
 have B_Body_put_in:=F_Body_put_in.binds (ps:=["self","row"]) fun _ _ _ _ _ _ us hl=>match us,hl with | [_,_],_=>rfl
 have F_Body_closed:=qF (st:=jB) zmi zmj zmk
 have B_Body_closed:=F_Body_closed.binds (ps:=["self"]) fun _ _ _ _ _ _ us hl=>match us,hl with | [_],_=>rfl
 have F_w_cell_at:=qF (st:=xo) zmm zmn zmo
 have B_w_cell_at:=F_w_cell_at.binds (ps:=["_law_script","_law_k"]) fun _ _ _ _ _ _ us hl=>match us,hl with | [_,_],_=>rfl
 have F_w_mix:=qF (st:=yb) zmq zmr zms
 have B_w_mix:=F_w_mix.binds (ps:=["_law_cell","_law_k"]) fun _ _ _ _ _ _ us hl=>match us,hl with | [_,_],_=>rfl
 have F_w_name:=qF (st:=vB) zmu zmv zmw
 have B_w_name:=F_w_name.binds (ps:=["_law_cell","_law_k"]) fun _ _ _ _ _ _ us hl=>match us,hl with | [_,_],_=>rfl
 have F_w_event:=qF (st:=xG) zmy zmz zmA
 have B_w_event:=F_w_event.binds (ps:=["_law_names","_law_cell","_law_label","_law_depth"]) fun _ _ _ _ _ _ us hl=>match us,hl with | [_,_,_,_],_=>rfl
 have F_w_events:=qF (st:=xA) zmC zmD zmE
 have B_w_events:=F_w_events.binds (ps:=["_law_names","_law_script"]) fun _ _ _ _ _ _ us hl=>match us,hl with | [_,_],_=>rfl
 have F_w_header:=qF (st:=x4) zmG zmH zmI
 have B_w_header:=F_w_header.binds (ps:=["_law_names","_law_cell"]) fun _ _ _ _ _ _ us hl=>match us,hl with | [_,_],_=>rfl
 have F_w_row:=qF (st:=yp) zmK zmL zmM
 have B_w_row:=F_w_row.binds (ps:=["_law_event_here"]) fun _ _ _ _ _ _ us hl=>match us,hl with | [_],_=>rfl
 have F_w_rows:=qF (st:=kU) zmO zmP zmQ
 have B_w_rows:=F_w_rows.binds (ps:=["_law_header_here","_law_events_here"]) fun _ _ _ _ _ _ us hl=>match us,hl with | [_,_],_=>rfl
 have F_w_no_text:=qF (st:=xi) zmS zmT zmU
 have B_w_no_text:=F_w_no_text.binds (ps:=["_law_e"]) fun _ _ _ _ _ _ us hl=>match us,hl with | [_],_=>rfl
 have F_w_refused_at:=qF (st:=jJ) zmW zmX zmY
 have B_w_refused_at:=F_w_refused_at.binds (ps:=["_law_text"]) fun _ _ _ _ _ _ us hl=>match us,hl with | [_],_=>rfl
 have F_w_odd_row:=qF (st:=xa) zna znb znc
 have B_w_odd_row:=F_w_odd_row.binds (ps:=["_law_names","_law_rows_here","_law_at","_law_cell"]) fun _ _ _ _ _ _ us hl=>match us,hl with | [_,_,_,_],_=>rfl
 have F_w_open_at:=qF (st:=xZ) zne znf zng
 have B_w_open_at:=F_w_open_at.binds (ps:=["_law_rows_here","_law_at"]) fun _ _ _ _ _ _ us hl=>match us,hl with | [_,_],_=>rfl
 have F_w_spoilt_at:=qF (st:=jR) zni znj znk
 have B_w_spoilt_at:=F_w_spoilt_at.binds (ps:=["_law_names","_law_rows_here","_law_many","_law_cell"]) fun _ _ _ _ _ _ us hl=>match us,hl with | [_,_,_,_],_=>rfl
 have F_v_law:=qF (st:=wm) znm znn zno
 have B_v_law:=F_v_law.binds (ps:=["_law_script"]) fun _ _ _ _ _ _ us hl=>match us,hl with | [_],_=>rfl
 refine⟨{ xK:=za,x6:=PySem.W.fnOf "__init__" "NoText.__init__" (qg jM) (qy jM) (z7 jM) .none zax zay zaz zau zaA zaB,qE:=zb,xX:=PySem.W.fnOf "__init__" "Clause.__init__" (qg jF) (qy jF) (z7 jF) .none zaG zaH zaI zaD zaJ zaK,bG:=zc,bY:=PySem.W.fnOf "number" "Clause.number" (qg jK) (qy jK) (z7 jK) .none zaP zaQ zaR zaM zaS zaT,vq:=zd,yN:=PySem.W.fnOf "__init__" "Duty.__init__" (qg xm) (qy xm) (z7 xm) .none zaY zaZ zba zaV zbb zbc,fk:=ze,fj:=PySem.W.fnOf "number" "Duty.number" (qg xq) (qy xq) (z7 xq) .none zbh zbi zbj zbe zbk zbl,vT:=zf,bh:=PySem.W.fnOf "__init__" "Ban.__init__" (qg xT) (qy xT) (z7 xT) .none zbq zbr zbs zbn zbt zbu,ki:=zg,yx:=PySem.W.fnOf "__init__" "Power.__init__" (qg j8) (qy j8) (z7 j8) .none zbz zbA zbB zbw zbC zbD,yo:=zh,bp:=PySem.W.fnOf "__init__" "Let.__init__" (qg xI) (qy xI) (z7 xI) .none zbI zbJ zbK zbF zbL zbM,km:=zi,k9:=PySem.W.fnOf "__init__" "Part.__init__" (qg xr) (qy xr) (z7 xr) .none zbR zbS zbT zbO zbU zbV,wX:=zj,yO:=PySem.W.fnOf "__init__" "Pact.__init__" (qg xu) (qy xu) (z7 xu) .none zca zcb zcc zbX zcd zce,vj:=zk,vz:=PySem.W.fnOf "is_name" "is_name" (qg xl) (qy xl) (z7 xl) .none zcj zck zcl zcg zcm zcn,kM:=zl,kB:=PySem.W.fnOf "number_of" "number_of" (qg jC) (qy jC) (z7 jC) .none zcs zct zcu zcp zcv zcw,xY:=zm,xW:=PySem.W.fnOf "written_with" "written_with" (qg qA) (qy qA) (z7 qA) .none zcB zcC zcD zcy zcE zcF,yw:=zn,yk:=PySem.W.fnOf "names_of" "names_of" (qg j9) (qy j9) (z7 j9) .none zcK zcL zcM zcH zcN zcO,kF:=zo,kH:=PySem.W.fnOf "are_names" "are_names" (qg jt) (qy jt) (z7 jt) .none zcT zcU zcV zcQ zcW zcX,gq:=zp,yE:=PySem.W.fnOf "room_of" "room_of" (qg xn) (qy xn) (z7 xn) .none zdc zdd zde zcZ zdf zdg,br:=zq,bf:=PySem.W.fnOf "let_of" "let_of" (qg xE) (qy xE) (z7 xE) .none zdl zdm zdn zdi zdo zdp,gz:=zr,yI:=PySem.W.fnOf "part_of" "part_of" (qg xt) (qy xt) (z7 xt) .none zdu zdv zdw zdr zdx zdy,wj:=zs,v7:=PySem.W.fnOf "clause_of" "clause_of" (qg jD) (qy jD) (z7 jD) .none zdD zdE zdF zdA zdG zdH,x9:=zt,x8:=PySem.W.fnOf "fits_form" "fits_form" (qg jn) (qy jn) (z7 jn) .none zdM zdN zdO zdJ zdP zdQ,vo:=zu,vm:=PySem.W.fnOf "fits_place" "fits_place" (qg ja) (qy ja) (z7 ja) .none zdV zdW zdX zdS zdY zdZ,mr:=zv,mh:=PySem.W.fnOf "read" "read" (qg vH) (qy vH) (z7 vH) .none zee zef zeg zeb zeh zei,vi:=zw,vd:=PySem.W.fnOf "read_names" "read_names" (qg jZ) (qy jZ) (z7 jZ) .none zen zeo zep zek zeq zer,kD:=zx,kP:=PySem.W.fnOf "told_once" "told_once" (qg jU) (qy jU) (z7 jU) .none zew zex zey zet zez zeA,ve:=zy,vc:=PySem.W.fnOf "read_rooms" "read_rooms" (qg jc) (qy jc) (z7 jc) .none zeF zeG zeH zeC zeI zeJ,va:=zz,vt:=PySem.W.fnOf "read_whole" "read_whole" (qg jQ) (qy jQ) (z7 jQ) .none zeO zeP zeQ zeL zeR zeS,wJ:=zA,yT:=PySem.W.fnOf "__init__" "Body.__init__" (qg xf) (qy xf) (z7 xf) .none zeX zeY zeZ zeU zfa zfb,ko:=zB,vL:=PySem.W.fnOf "many_open" "Body.many_open" (qg jh) (qy jh) (z7 jh) .none zfg zfh zfi zfd zfj zfk,yv:=zC,bb:=PySem.W.fnOf "takes" "Body.takes" (qg j7) (qy j7) (z7 j7) .none zfp zfq zfr zfm zfs zft,kq:=zD,vp:=PySem.W.fnOf "takes_done" "Body.takes_done" (qg q9) (qy q9) (z7 q9) .none zfy zfz zfA zfv zfB zfC,kj:=zE,vf:=PySem.W.fnOf "takes_head" "Body.takes_head" (qg jz) (qy jz) (z7 jz) .none zfH zfI zfJ zfE zfK zfL,xV:=zF,kY:=PySem.W.fnOf "takes_clause" "Body.takes_clause" (qg qL) (qy qL) (z7 qL) .none zfQ zfR zfS zfN zfT zfU,wq:=zG,gZ:=PySem.W.fnOf "put_in" "Body.put_in" (qg jP) (qy jP) (z7 jP) .none zfZ zga zgb zfW zgc zgd,wz:=zH,gi:=PySem.W.fnOf "closed" "Body.closed" (qg jB) (qy jB) (z7 jB) .none zgi zgj zgk zgf zgl zgm,wK:=zI,wQ:=PySem.W.fnOf "_law_cell_at" "_law_cell_at" (qg xo) (qy xo) (z7 xo) .none zgr zgs zgt zgo zgu zgv,gj:=zJ,yA:=PySem.W.fnOf "_law_mix" "_law_mix" (qg yb) (qy yb) (z7 yb) .none zgA zgB zgC zgx zgD zgE,ml:=zK,mf:=PySem.W.fnOf "_law_name" "_law_name" (qg vB) (qy vB) (z7 vB) .none zgJ zgK zgL zgG zgM zgN,pN:=zL,pT:=PySem.W.fnOf "_law_event" "_law_event" (qg xG) (qy xG) (z7 xG) .none zgS zgT zgU zgP zgV zgW,bt:=zM,bc:=PySem.W.fnOf "_law_events" "_law_events" (qg xA) (qy xA) (z7 xA) .none zhb zhc zhd zgY zhe zhf,bo:=zN,bu:=PySem.W.fnOf "_law_header" "_law_header" (qg x4) (qy x4) (z7 x4) .none zhk zhl zhm zhh zhn zho,cm:=zO,cb:=PySem.W.fnOf "_law_row" "_law_row" (qg yp) (qy yp) (z7 yp) .none zht zhu zhv zhq zhw zhx,mi:=zP,mm:=PySem.W.fnOf "_law_rows" "_law_rows" (qg kU) (qy kU) (z7 kU) .none zhC zhD zhE zhz zhF zhG,gx:=zQ,y0:=PySem.W.fnOf "_law_no_text" "_law_no_text" (qg xi) (qy xi) (z7 xi) .none zhL zhM zhN zhI zhO zhP,vZ:=zR,vn:=PySem.W.fnOf "_law_refused_at" "_law_refused_at" (qg jJ) (qy jJ) (z7 jJ) .none zhU zhV zhW zhR zhX zhY,gk:=zS,y8:=PySem.W.fnOf "_law_odd_row" "_law_odd_row" (qg xa) (qy xa) (z7 xa) .none zid zie zif zia zig zih,gw:=zT,y9:=PySem.W.fnOf "_law_open_at" "_law_open_at" (qg xZ) (qy xZ) (z7 xZ) .none zim zin zio zij ziq zir,wx:=zU,v8:=PySem.W.fnOf "_law_spoilt_at" "_law_spoilt_at" (qg jR) (qy jR) (z7 jR) .none ziw zix ziy zit ziz ziA,md:=zV,cg:=PySem.W.fnOf "law" "law" (qg wm) (qy wm) (z7 wm) .none ziF ziG ziH ziC ziI ziJ,bI:=zW,qI:=zX,mq:=zY,bj:=zZ,mz:=zaa,pS:=zab,fE:=zac,pL:=zad,mj:=zae,bw:=zaf,cy:=zag,KU:=zah,x5:=zai,yt:=zaj,kR:=zak,bO:=zal,vb:=zam,fA:=zan,jL:=zao,xg:=zap,qN:=zaq,cN:=zar,mZ:=zas },?_,PySem.W.mg_of X G znl⟩
 exact {
  xH:=⟨F_NoText_init,B_NoText_init⟩,
  k6:=⟨F_Clause_init,B_Clause_init⟩,
  u5:=⟨F_Clause_number,B_Clause_number⟩,
  dz:=⟨F_Duty_init,B_Duty_init⟩,
  tU:=⟨F_Duty_number,B_Duty_number⟩,
  cP:=⟨F_Ban_init,B_Ban_init⟩,
  fK:=⟨F_Power_init,B_Power_init⟩,
  cM:=⟨F_Let_init,B_Let_init⟩,
  ym:=⟨F_Part_init,B_Part_init⟩,
  dj:=⟨F_Pact_init,B_Pact_init⟩,
  jA:=⟨F_v_is_name,B_v_is_name,PySem.W.mg_of X G zkt⟩,
  xF:=⟨F_v_number_of,B_v_number_of,PySem.W.mg_of X G zkx⟩,
  jO:=⟨F_v_written_with,B_v_written_with,PySem.W.mg_of X G zkB⟩,
  yD:=⟨F_v_names_of,B_v_names_of,PySem.W.mg_of X G zkF⟩,
  xP:=⟨F_v_are_names,B_v_are_names,PySem.W.mg_of X G zkJ⟩,
  gA:=⟨F_v_room_of,B_v_room_of,PySem.W.mg_of X G zkN⟩,
  pM:=⟨F_v_let_of,B_v_let_of,PySem.W.mg_of X G zkR⟩,
  gE:=⟨F_v_part_of,B_v_part_of,PySem.W.mg_of X G zkV⟩,
  wR:=⟨F_v_clause_of,B_v_clause_of,PySem.W.mg_of X G zkZ⟩,
  qD:=⟨F_v_fits_form,B_v_fits_form,PySem.W.mg_of X G zld⟩,
  vF:=⟨F_v_fits_place,B_v_fits_place,PySem.W.mg_of X G zlh⟩,
  uT:=⟨F_v_read,B_v_read,PySem.W.mg_of X G zll⟩,
  xQ:=⟨F_v_read_names,B_v_read_names,PySem.W.mg_of X G zlp⟩,
  xM:=⟨F_v_told_once,B_v_told_once,PySem.W.mg_of X G zlt⟩,
  vM:=⟨F_v_read_rooms,B_v_read_rooms,PySem.W.mg_of X G zlx⟩,
  vD:=⟨F_v_read_whole,B_v_read_whole,PySem.W.mg_of X G zlB⟩,
  m9:=⟨F_Body_init,B_Body_init⟩,
  kh:=⟨F_Body_many_open,B_Body_many_open⟩,
  fX:=⟨F_Body_takes,B_Body_takes⟩,
  wN:=⟨F_Body_takes_done,B_Body_takes_done⟩,
  wO:=⟨F_Body_takes_head,B_Body_takes_head⟩,
  vg:=⟨F_Body_takes_clause,B_Body_takes_clause⟩,
  wo:=⟨F_Body_put_in,B_Body_put_in⟩,
  yL:=⟨F_Body_closed,B_Body_closed⟩,
  jl:=⟨F_w_cell_at,B_w_cell_at,PySem.W.mg_of X G zml⟩,
  jd:=⟨F_w_mix,B_w_mix,PySem.W.mg_of X G zmp⟩,
  uE:=⟨F_w_name,B_w_name,PySem.W.mg_of X G zmt⟩,
  m6:=⟨F_w_event,B_w_event,PySem.W.mg_of X G zmx⟩,
  pD:=⟨F_w_events,B_w_events,PySem.W.mg_of X G zmB⟩,
  pC:=⟨F_w_header,B_w_header,PySem.W.mg_of X G zmF⟩,
  oI:=⟨F_w_row,B_w_row,PySem.W.mg_of X G zmJ⟩,
  uA:=⟨F_w_rows,B_w_rows,PySem.W.mg_of X G zmN⟩,
  g6:=⟨F_w_no_text,B_w_no_text,PySem.W.mg_of X G zmR⟩,
  jX:=⟨F_w_refused_at,B_w_refused_at,PySem.W.mg_of X G zmV⟩,
  g7:=⟨F_w_odd_row,B_w_odd_row,PySem.W.mg_of X G zmZ⟩,
  g8:=⟨F_w_open_at,B_w_open_at,PySem.W.mg_of X G znd⟩,
  wL:=⟨F_w_spoilt_at,B_w_spoilt_at,PySem.W.mg_of X G znh⟩,
  JT:=⟨F_v_law,B_v_law,PySem.W.mg_of X G znl⟩,
  dk:=PySem.W.mg_none_of X G znp,
  kf:=PySem.W.mg_none_of X G znq,
  yS:=PySem.W.mg_none_of X G znr,
  eV:=PySem.W.mg_none_of X G zns,
  fO:=PySem.W.mg_none_of X G znt,
  KD:=PySem.W.mg_none_of X G znu,
  q0:=PySem.W.mg_none_of X G znv,
  Qk:=PySem.W.mg_none_of X G znw,
  KC:=PySem.W.mg_none_of X G znx,
  fN:=PySem.W.mg_none_of X G zny,
  KP:=PySem.W.mg_none_of X G znz,
  Qa:=PySem.W.mg_of X G zjt,
  rB:=⟨_,PySem.W.mg_of X G zju⟩,
  rH:=⟨_,PySem.W.mg_of X G zjv⟩,
  b7:=⟨_,PySem.W.mg_of X G zjw⟩,
  bA:=⟨_,PySem.W.mg_of X G zjx⟩,
  aj:=PySem.W.mg_of X G zjy,
  ba:=⟨_,PySem.W.mg_of X G zjz⟩,
  b8:=⟨_,PySem.W.mg_of X G zjA⟩,
  dB:=⟨_,PySem.W.mg_of X G zjB⟩,
  dF:=⟨_,PySem.W.mg_of X G zjC⟩,
  dP:=⟨_,PySem.W.mg_of X G zjD⟩,
  vQ:=⟨_,PySem.W.mg_of X G zjE⟩,
  dU:=PySem.W.mg_of X G ziY,
  wG:=PySem.W.mg_of X G ziZ,
  nU:=PySem.W.mg_of X G zja,
  cA:=PySem.W.mg_of X G zjb,
  nC:=PySem.W.mg_of X G zjc,
  rO:=PySem.W.mg_of X G zjd,
  nD:=PySem.W.mg_of X G zje,
  rN:=PySem.W.mg_of X G zjf,
  nR:=PySem.W.mg_of X G zjg,
  c9:=PySem.W.mg_of X G zjh,
  af:=PySem.W.mg_of X G zji,
  YD:=PySem.W.mg_of X G zjj,
  c8:=PySem.W.mg_of X G zjk,
  QD:=PySem.W.mg_of X G zjl,
  sm:=PySem.W.mg_of X G zjm,
  KA:=PySem.W.mg_of X G zjn,
  au:=PySem.W.mg_of X G zjo,
  K0:=PySem.W.mg_of X G zjp,
  uz:=PySem.W.mg_of X G zjq,
  QC:=PySem.W.mg_of X G zjr,
  QM:=PySem.W.mg_of X G zjs,
  Q0:=(by obtain⟨its,n,h1,h2,h3,h4⟩:=znB;exact⟨ziU,its,n,znA,h1,h2,h3,h4⟩),
  ae:=(by obtain⟨its,n,h1,h2,h3,h4⟩:=znD;exact⟨ziV,its,n,znC,h1,h2,h3,h4⟩),
  rW:=⟨znE,znF,znG,znH⟩,
  fh:=znI,
  bB:=znJ,
  pq:=znK,
  bP:=znL,
  fb:=znM,
  rE:=⟨znN,znO,znP,znQ⟩,
  eP:=⟨znR,znS,znT,znU⟩,
  dS:=znV,
  ff:=znW,
  mW:=znX,
  fc:=znY,
  dN:=znZ,
  sd:=⟨zoa,zob,zoc,zod⟩,
  nk:=⟨zoe,zof,zog,zoh⟩,
  mY:=zoi,
  pj:=zoj,
  fu:=zok,
  pk:=zol,
  mG:=zom,
  ux:=⟨zon,zoo,zop,zoq⟩,
  Qh:=⟨zor,zos,zot,zou⟩,
  uv:=zov,
  mK:=zow,
  dR:=zox,
  mV:=zoy,
  uw:=zoz,
  iW:=⟨zoA,zoB,zoC,zoD⟩,
  nv:=⟨zoE,zoF,zoG,zoH⟩,
  mF:=zoI,
  pf:=zoJ,
  fe:=zoK,
  pd:=zoL,
  mM:=zoM,
  uk:=⟨zoN,zoO,zoP,zoQ⟩,
  ix:=⟨zoR,zoS,zoT,zoU⟩,
  dO:=zoV,
  mH:=zoW,
  QT:=⟨zoX,zoY,zoZ,zpa⟩,
  bg:=⟨zpb,zpc,zpd,zpe⟩,
  yy:=zpf,
  gQ:=zpg,
  mP:=zph,
  mX:=⟨zpi,zpj,zpk,zpl⟩,
  mw:=⟨zpm,zpn,zpo,zpp⟩,
  mB:=zpq,
  bF:=zpr,
  fo:=zps,
  fi:=zpt,
  ao:=⟨zpu,zpv,zpw,zpx⟩,
  jY:=⟨zpy,zpz,zpA,zpB⟩,
  ku:=zpC,
  wy:=zpD,
  yW:=zpE,
  ar:=⟨zpF,zpG,zpH,zpI⟩,
  ky:=⟨zpJ,zpK,zlM⟩,
  fg:=⟨zpL,zpM,zlQ⟩,
  yK:=⟨zpN,zpO,zlU⟩,
  yV:=⟨zpP,zpQ,zlY⟩,
  wB:=⟨zpR,zpS,zmc⟩,
  vX:=⟨zpT,zpU,zmg⟩,
  yX:=⟨zpV,zpW,zmk⟩,
  lH:=⟨KQ zpZ zqa,zqb⟩,
  fS:=⟨zqc,zqd,zqe,zqf,zqg,zqh,zqi,zqj⟩,
  vy:=⟨JI zpZ zqa,zqk,zql,zqm⟩,
  kC:=zqn,
  yj:=(V0 (JI zpX zpY) zqo zqp zqq),
  dv:=⟨zqr,zqs,zqt,zjM⟩,
  ny:=⟨zqu,zqv,zqw,zjM⟩,
  gD:=zqx,
  ya:=zqy,
  gM:=zqz,
  gg:=zqA,
  gF:=zqB,
  gy:=zqC,
  gC:=zqD,
  yZ:=zqE,
  bH:=zqF,
  gU:=zqG,
  wW:=zqH,
  dM:=zqI }
end My
theorem PySem.W.Fast.tw10015936364417621946:True:=trivial
theorem PySem.W.Fast.tw10135960826776689475:True:=trivial
theorem PySem.W.Fast.tw1018985930224828795:True:=trivial
theorem PySem.W.Fast.tw10345472860274545289:True:=trivial
theorem PySem.W.Fast.tw10460032557774950657:True:=trivial
theorem PySem.W.Fast.tw10778160586879192883:True:=trivial
theorem PySem.W.Fast.tw11059132290723425851:True:=trivial
theorem PySem.W.Fast.tw11396672741734808185:True:=trivial
theorem PySem.W.Fast.tw11719129910515492296:True:=trivial
theorem PySem.W.Fast.tw11756849472296992628:True:=trivial
theorem PySem.W.Fast.tw1189579655421066622:True:=trivial
theorem PySem.W.Fast.tw11901336780666837055:True:=trivial
theorem PySem.W.Fast.tw11969973029527968547:True:=trivial
theorem PySem.W.Fast.tw12049095600674155356:True:=trivial
theorem PySem.W.Fast.tw12223937273241597555:True:=trivial
theorem PySem.W.Fast.tw12884302515726890092:True:=trivial
theorem PySem.W.Fast.tw12911230020041498997:True:=trivial
theorem PySem.W.Fast.tw12932225980820264035:True:=trivial
theorem PySem.W.Fast.tw12977644735051322119:True:=trivial
theorem PySem.W.Fast.tw13191846163241822445:True:=trivial
theorem PySem.W.Fast.tw13557332850179174151:True:=trivial
theorem PySem.W.Fast.tw13707365498178572402:True:=trivial
theorem PySem.W.Fast.tw13906128978320026046:True:=trivial
theorem PySem.W.Fast.tw13934400666839891699:True:=trivial
theorem PySem.W.Fast.tw14212931683510672764:True:=trivial
theorem PySem.W.Fast.tw14660998059947846692:True:=trivial
theorem PySem.W.Fast.tw15423023123580395773:True:=trivial
theorem PySem.W.Fast.tw15466333351042635556:True:=trivial
theorem PySem.W.Fast.tw15482113503095873615:True:=trivial
theorem PySem.W.Fast.tw15707212552749965273:True:=trivial
theorem PySem.W.Fast.tw15753886817381074653:True:=trivial
theorem PySem.W.Fast.tw15839896142288730906:True:=trivial
theorem PySem.W.Fast.tw15867025427240753562:True:=trivial
theorem PySem.W.Fast.tw1632017118534032578:True:=trivial
theorem PySem.W.Fast.tw16367508379440508383:True:=trivial
theorem PySem.W.Fast.tw16382922776740531068:True:=trivial
theorem PySem.W.Fast.tw16438333160686951239:True:=trivial
theorem PySem.W.Fast.tw17158018631708770379:True:=trivial
theorem PySem.W.Fast.tw17259719135619146475:True:=trivial
theorem PySem.W.Fast.tw17299301622627333405:True:=trivial
theorem PySem.W.Fast.tw17350146917982119909:True:=trivial
theorem PySem.W.Fast.tw17403998261211804983:True:=trivial
theorem PySem.W.Fast.tw17429056797591504237:True:=trivial
theorem PySem.W.Fast.tw17570271964732382070:True:=trivial
theorem PySem.W.Fast.tw17709090517398625069:True:=trivial
theorem PySem.W.Fast.tw17815394998171190465:True:=trivial
theorem PySem.W.Fast.tw17932943751502565464:True:=trivial
theorem PySem.W.Fast.tw17952703228523484776:True:=trivial
theorem PySem.W.Fast.tw18035134162222456868:True:=trivial
theorem PySem.W.Fast.tw18117826641493206512:True:=trivial
theorem PySem.W.Fast.tw18138651940914864741:True:=trivial
theorem PySem.W.Fast.tw18302863624031415958:True:=trivial
theorem PySem.W.Fast.tw18375569969162532902:True:=trivial
theorem PySem.W.Fast.tw2145001353674391650:True:=trivial
theorem PySem.W.Fast.tw3408920009749136083:True:=trivial
theorem PySem.W.Fast.tw3620444117761405438:True:=trivial
theorem PySem.W.Fast.tw3628839471814897480:True:=trivial
theorem PySem.W.Fast.tw3736580444124583991:True:=trivial
theorem PySem.W.Fast.tw3813867593246913119:True:=trivial
theorem PySem.W.Fast.tw3820939882255291809:True:=trivial
theorem PySem.W.Fast.tw4104168588772762869:True:=trivial
theorem PySem.W.Fast.tw4285248072458820522:True:=trivial
theorem PySem.W.Fast.tw4544225703615794738:True:=trivial
theorem PySem.W.Fast.tw4821173198518618333:True:=trivial
theorem PySem.W.Fast.tw485456538659686515:True:=trivial
theorem PySem.W.Fast.tw5566383835312090748:True:=trivial
theorem PySem.W.Fast.tw5725492786421460897:True:=trivial
theorem PySem.W.Fast.tw5954901646089106566:True:=trivial
theorem PySem.W.Fast.tw6185046143500173308:True:=trivial
theorem PySem.W.Fast.tw6262634330236430857:True:=trivial
theorem PySem.W.Fast.tw6534553629710076082:True:=trivial
theorem PySem.W.Fast.tw6573122514266566147:True:=trivial
theorem PySem.W.Fast.tw6710574802212626247:True:=trivial
theorem PySem.W.Fast.tw6902824452286134513:True:=trivial
theorem PySem.W.Fast.tw7113484395952294774:True:=trivial
theorem PySem.W.Fast.tw717541697782348295:True:=trivial
theorem PySem.W.Fast.tw720463409171972449:True:=trivial
theorem PySem.W.Fast.tw7229888496942794599:True:=trivial
theorem PySem.W.Fast.tw777556024140095:True:=trivial
theorem PySem.W.Fast.tw9448324168611101670:True:=trivial
theorem PySem.W.Fast.tw9888617018301553898:True:=trivial
theorem PySem.W.Fast.tw9936702906753428030:True:=trivial
theorem PySem.W.Fast.tw9997948731272051538:True:=trivial
theorem PySem.W.Fast.tw9998513940280835544:True:=trivial
open PySem PySem.W PyProof.Rows
set_option maxRecDepth 100000 in
set_option maxHeartbeats 0 in
theorem PySem.Challenge.cw_pactway_k25_first_wrong_row_holds : PySem.Challenge.rw_pactway_k25_first_wrong_row.Holds := by
 w_on;o_law;k_head;(case hw=>w_witness2)
 k_fill
 refine L2.JN (l:=PySem.Challenge.rw_pactway_k25_first_wrong_row) (n:=63) (k:=11) (x:="_law_script") (CX:=L2.jW) (sp:=My.JK) rfl (by decide) rfl ⟨rfl,by decide,by decide⟩ (fun w h Y=>PySem.W.kIn_of Y) ?F ?S ?C
 case F=>
  intro w mg fa h KX G hmg
  have T:∃t:My.xj,My.Txt (L2.BF KX) mg t∧mg "law" = some (.ref t.md):=by
   dsimp only[L2.BF]
   refine' My.W9 KX G ?za_ ?zb_ ?zc_ ?zd_ ?ze_ ?zf_ ?zg_ ?zh_ ?zi_ ?zj_ ?zk_ ?zl_ ?zm_ ?zn_ ?zo_ ?zp_ ?zq_ ?zr_ ?zs_ ?zt_ ?zu_ ?zv_ ?zw_ ?zx_ ?zy_ ?zz_ ?zA_ ?zB_ ?zC_ ?zD_ ?zE_ ?zF_ ?zG_ ?zH_ ?zI_ ?zJ_ ?zK_ ?zL_ ?zM_ ?zN_ ?zO_ ?zP_ ?zQ_ ?zR_ ?zS_ ?zT_ ?zU_ ?zV_ ?zW_ ?zX_ ?zY_ ?zZ_ ?zaa_ ?zab_ ?zac_ ?zad_ ?zae_ ?zaf_ ?zag_ ?zah_ ?zai_ ?zaj_ ?zak_ ?zal_ ?zam_ ?zan_ ?zao_ ?zap_ ?zaq_ ?zar_ ?zas_ ?zat_ ?zau_ ?zav_ ?zaw_ ?zax_ ?zay_ ?zaz_ ?zaA_ ?zaB_ ?zaC_ ?zaD_ ?zaE_ ?zaF_ ?zaG_ ?zaH_ ?zaI_ ?zaJ_ ?zaK_ ?zaL_ ?zaM_ ?zaN_ ?zaO_ ?zaP_ ?zaQ_ ?zaR_ ?zaS_ ?zaT_ ?zaU_ ?zaV_ ?zaW_ ?zaX_ ?zaY_ ?zaZ_ ?zba_ ?zbb_ ?zbc_ ?zbd_ ?zbe_ ?zbf_ ?zbg_ ?zbh_ ?zbi_ ?zbj_ ?zbk_ ?zbl_ ?zbm_ ?zbn_ ?zbo_ ?zbp_ ?zbq_ ?zbr_ ?zbs_ ?zbt_ ?zbu_ ?zbv_ ?zbw_ ?zbx_ ?zby_ ?zbz_ ?zbA_ ?zbB_ ?zbC_ ?zbD_ ?zbE_ ?zbF_ ?zbG_ ?zbH_ ?zbI_ ?zbJ_ ?zbK_ ?zbL_ ?zbM_ ?zbN_ ?zbO_ ?zbP_ ?zbQ_ ?zbR_ ?zbS_ ?zbT_ ?zbU_ ?zbV_ ?zbW_ ?zbX_ ?zbY_ ?zbZ_ ?zca_ ?zcb_ ?zcc_ ?zcd_ ?zce_ ?zcf_ ?zcg_ ?zch_ ?zci_ ?zcj_ ?zck_ ?zcl_ ?zcm_ ?zcn_ ?zco_ ?zcp_ ?zcq_ ?zcr_ ?zcs_ ?zct_ ?zcu_ ?zcv_ ?zcw_ ?zcx_ ?zcy_ ?zcz_ ?zcA_ ?zcB_ ?zcC_ ?zcD_ ?zcE_ ?zcF_ ?zcG_ ?zcH_ ?zcI_ ?zcJ_ ?zcK_ ?zcL_ ?zcM_ ?zcN_ ?zcO_ ?zcP_ ?zcQ_ ?zcR_ ?zcS_ ?zcT_ ?zcU_ ?zcV_ ?zcW_ ?zcX_ ?zcY_ ?zcZ_ ?zda_ ?zdb_ ?zdc_ ?zdd_ ?zde_ ?zdf_ ?zdg_ ?zdh_ ?zdi_ ?zdj_ ?zdk_ ?zdl_ ?zdm_ ?zdn_ ?zdo_ ?zdp_ ?zdq_ ?zdr_ ?zds_ ?zdt_ ?zdu_ ?zdv_ ?zdw_ ?zdx_ ?zdy_ ?zdz_ ?zdA_ ?zdB_ ?zdC_ ?zdD_ ?zdE_ ?zdF_ ?zdG_ ?zdH_ ?zdI_ ?zdJ_ ?zdK_ ?zdL_ ?zdM_ ?zdN_ ?zdO_ ?zdP_ ?zdQ_ ?zdR_ ?zdS_ ?zdT_ ?zdU_ ?zdV_ ?zdW_ ?zdX_ ?zdY_ ?zdZ_ ?zea_ ?zeb_ ?zec_ ?zed_ ?zee_ ?zef_ ?zeg_ ?zeh_ ?zei_ ?zej_ ?zek_ ?zel_ ?zem_ ?zen_ ?zeo_ ?zep_ ?zeq_ ?zer_ ?zes_ ?zet_ ?zeu_ ?zev_ ?zew_ ?zex_ ?zey_ ?zez_ ?zeA_ ?zeB_ ?zeC_ ?zeD_ ?zeE_ ?zeF_ ?zeG_ ?zeH_ ?zeI_ ?zeJ_ ?zeK_ ?zeL_ ?zeM_ ?zeN_ ?zeO_ ?zeP_ ?zeQ_ ?zeR_ ?zeS_ ?zeT_ ?zeU_ ?zeV_ ?zeW_ ?zeX_ ?zeY_ ?zeZ_ ?zfa_ ?zfb_ ?zfc_ ?zfd_ ?zfe_ ?zff_ ?zfg_ ?zfh_ ?zfi_ ?zfj_ ?zfk_ ?zfl_ ?zfm_ ?zfn_ ?zfo_ ?zfp_ ?zfq_ ?zfr_ ?zfs_ ?zft_ ?zfu_ ?zfv_ ?zfw_ ?zfx_ ?zfy_ ?zfz_ ?zfA_ ?zfB_ ?zfC_ ?zfD_ ?zfE_ ?zfF_ ?zfG_ ?zfH_ ?zfI_ ?zfJ_ ?zfK_ ?zfL_ ?zfM_ ?zfN_ ?zfO_ ?zfP_ ?zfQ_ ?zfR_ ?zfS_ ?zfT_ ?zfU_ ?zfV_ ?zfW_ ?zfX_ ?zfY_ ?zfZ_ ?zga_ ?zgb_ ?zgc_ ?zgd_ ?zge_ ?zgf_ ?zgg_ ?zgh_ ?zgi_ ?zgj_ ?zgk_ ?zgl_ ?zgm_ ?zgn_ ?zgo_ ?zgp_ ?zgq_ ?zgr_ ?zgs_ ?zgt_ ?zgu_ ?zgv_ ?zgw_ ?zgx_ ?zgy_ ?zgz_ ?zgA_ ?zgB_ ?zgC_ ?zgD_ ?zgE_ ?zgF_ ?zgG_ ?zgH_ ?zgI_ ?zgJ_ ?zgK_
   (case za_ | zb_ | zc_ | zd_ | ze_ | zf_ | zg_ | zh_ | zi_ | zj_ | zk_ | zl_ | zm_ | zn_ | zo_ | zp_ | zq_ | zr_ | zs_ | zt_ | zu_ | zv_ | zw_ | zx_ | zy_ | zz_ | zA_ | zB_ | zC_ | zD_ | zE_ | zF_ | zG_ | zH_ | zI_ | zJ_ | zK_ | zL_ | zM_ | zN_ | zO_ | zP_ | zQ_ | zR_ | zS_ | zT_ | zU_ | zV_ | zW_ | zX_ | zY_ | zZ_ | zaa_ | zab_ | zac_ | zad_ | zae_ | zaf_ | zag_ | zah_ | zai_ | zaj_ | zak_ | zal_ | zam_ | zan_ | zao_ | zap_ | zaq_ | zar_ | zas_ | zat_ | zau_ | zav_ | zaw_ | zax_ | zay_ | zaz_ | zaA_ | zaB_ | zaC_ | zaD_ | zaE_ | zaF_ | zaG_ | zaH_ | zaI_ | zaJ_ | zaK_ | zaL_ | zaM_ | zaN_ | zaO_ | zaP_ | zaQ_ | zaR_ | zaS_ | zaT_ | zaU_ | zaV_ | zaW_ | zaX_ | zaY_ | zaZ_ | zba_ | zbb_ | zbc_ | zbd_ | zbe_ | zbf_ | zbg_ | zbh_ | zbi_ | zbj_ | zbk_ | zbl_ | zbm_ | zbn_ | zbo_ | zbp_ | zbq_ | zbr_ | zbs_ | zbt_ | zbu_ | zbv_ | zbw_ | zbx_ | zby_ | zbz_ | zbA_ | zbB_ | zbC_ | zbD_ | zbE_ | zbF_ | zbG_ | zbH_ | zbI_ | zbJ_ | zbK_ | zbL_ | zbM_ | zbN_ | zbO_ | zbP_ | zbQ_ | zbR_ | zbS_ | zbT_ | zbU_ | zbV_ | zbW_ | zbX_ | zbY_ | zbZ_ | zca_ | zcb_ | zcc_ | zcd_ | zce_ | zcf_ | zcg_ | zch_ | zci_ | zcj_ | zck_ | zcl_ | zcm_ | zcn_ | zco_ | zcp_ | zcq_ | zcr_ | zcs_ | zct_ | zcu_ | zcv_ | zcw_ | zcx_ | zcy_ | zcz_ | zcA_ | zcB_ | zcC_ | zcD_ | zcE_ | zcF_ | zcG_ | zcH_ | zcI_ | zcJ_ | zcK_ | zcL_ | zcM_ | zcN_ | zcO_ | zcP_ | zcQ_ | zcR_ | zcS_ | zcT_ | zcU_ | zcV_ | zcW_ | zcX_ | zcY_ | zcZ_ | zda_ | zdb_ | zdc_ | zdd_ | zde_ | zdf_ | zdg_ | zdh_ | zdi_ | zdj_ | zdk_ | zdl_ | zdm_ | zdn_ | zdo_ | zdp_ | zdq_ | zdr_ | zds_ | zdt_ | zdu_ | zdv_ | zdw_ | zdx_ | zdy_ | zdz_ | zdA_ | zdB_ | zdC_=>k_is)
   (case zdD_=>exact⟨_,_,rfl,rfl,My.Xa,My.XZ⟩)
   (case zdE_=>k_is)
   (case zdF_=>exact⟨_,_,rfl,rfl,My.QY,My.QG⟩)
   (case zdG_ | zdH_ | zdI_ | zdJ_ | zdK_ | zdL_ | zdM_ | zdN_ | zdO_ | zdP_ | zdQ_ | zdR_ | zdS_ | zdT_ | zdU_ | zdV_ | zdW_ | zdX_ | zdY_ | zdZ_ | zea_ | zeb_ | zec_ | zed_ | zee_ | zef_ | zeg_ | zeh_ | zei_ | zej_ | zek_ | zel_ | zem_ | zen_ | zeo_ | zep_ | zeq_ | zer_ | zes_ | zet_ | zeu_ | zev_ | zew_ | zex_ | zey_ | zez_ | zeA_ | zeB_ | zeC_ | zeD_ | zeE_ | zeF_ | zeG_ | zeH_ | zeI_ | zeJ_ | zeK_ | zeL_ | zeM_ | zeN_ | zeO_ | zeP_ | zeQ_ | zeR_ | zeS_ | zeT_ | zeU_ | zeV_ | zeW_ | zeX_ | zeY_ | zeZ_ | zfa_ | zfb_ | zfc_ | zfd_ | zfe_ | zff_ | zfg_ | zfh_ | zfi_ | zfj_ | zfk_ | zfl_ | zfm_ | zfn_ | zfo_ | zfp_ | zfq_ | zfr_ | zfs_ | zft_ | zfu_ | zfv_ | zfw_ | zfx_ | zfy_ | zfz_ | zfA_ | zfB_ | zfC_ | zfD_ | zfE_ | zfF_ | zfG_ | zfH_ | zfI_ | zfJ_ | zfK_ | zfL_ | zfM_ | zfN_ | zfO_ | zfP_ | zfQ_ | zfR_ | zfS_ | zfT_ | zfU_ | zfV_ | zfW_ | zfX_ | zfY_ | zfZ_=>k_is)
   (case zga_=>rfl)
   (case zgb_=>k_is)
   (case zgc_=>rfl)
   (case zgd_ | zge_ | zgf_ | zgg_ | zgh_ | zgi_ | zgj_ | zgk_ | zgl_ | zgm_ | zgn_ | zgo_ | zgp_ | zgq_ | zgr_ | zgs_ | zgt_ | zgu_ | zgv_ | zgw_ | zgx_ | zgy_=>k_is)
   (case zgz_ | zgA_ | zgB_ | zgC_ | zgD_ | zgE_ | zgF_ | zgG_ | zgH_ | zgI_ | zgJ_ | zgK_=>kit_is)
  obtain⟨t,T,hl⟩:=T
  have e0:=hmg.symm.trans hl
  cases e0
  exact⟨_,My.Zf T,fun base kb nb=>My.Q2 T⟩
 case S=>exact fun K H a ns hl hO hS=>My.Zm hl hO hS
 case C=>exact fun _ _ _ _ z=>z
